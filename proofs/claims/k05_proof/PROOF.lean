import PyProof.Rows.All
import Wide.All
import OpenK.AllK
import Wide.FinOn
import Lean
import PyProof.EqAt
import PyProof.EqKinds
import PyProof.TupleCall
import PyProof.ExcArgs
import KE.KIsAll
import PyProof.ExcInit
import PyProof.StationsW
import PyProof.NsDelKeeps
import PyProof.RulesAs
import PyProof.PassesOwn
import PyProof.ExcBaseAll.ValueError
import PyProof.InstStoreFacts
import PyProof.Rows.EqDataRows
import PyProof.ReprRoads
import PyProof.Rows.Range3
import PyProof.ConsumeWalk
import PyProof.FString5
import PyProof.ReprLen
import PyProof.Rows.TupAdd
import PyProof.Rows.RuleIs
import PyProof.ListNew
import KE.KRevIter
import PyProof.Rows.SeqMore2
import PyProof.ListRange
import KE.KEqDict
import PyProof.NeKinds
import PyProof.CallStr
import PySem.Challenge.RW_ringloads_k05_rings_let_by
set_option Elab.async false
set_option linter.all false
set_option maxRecDepth 100000
namespace L2
open PySem PySem.Spec PyProof.Rows
abbrev Key:=Sum Int Str
def keyIs:Key→Value→Bool
 | .inl k,v=>Value.isInt k v
 | .inr x,v=>Value.isStrOf x v
def keyH (w:World):Key→Int
 | .inl k=>hashInt k
 | .inr x=>hashStr w x
theorem keyIs_shape:∀ {k:Key} {v:Value},keyIs k v=true→(∃ i t,k=Sum.inl i∧v=Value.int i t)∨(∃ x t,k=Sum.inr x∧v=Value.str x t)
 | .inl i,v,h=>by
  obtain ⟨t,e⟩:=Value.isInt_shape (k:=i) (v:=v) h
  exact .inl ⟨i,t,rfl,e⟩
 | .inr x,v,h=>by
  obtain ⟨t,e⟩:=Value.isStrOf_shape (x:=x) (v:=v) h
  exact .inr ⟨x,t,rfl,e⟩
theorem keyIs_int (i:Int) (t:Tok):keyIs (.inl i) (.int i t)=true:=by simp [keyIs,Value.isInt]
theorem keyIs_str (x:Str) (t:Tok):keyIs (.inr x) (.str x t)=true:=by simp [keyIs,Value.isStrOf]
theorem key_ll (a b:Int):decide ((Sum.inl a:Key)=Sum.inl b)=(a == b):=by
 by_cases e:a=b
 ·
  subst e; simp
 ·
  have h:¬ (Sum.inl a:Key)=Sum.inl b:=fun q=>e (Sum.inl.inj q)
  rw [decide_eq_false h]
  exact (beq_eq_false_iff_ne.mpr e).symm
theorem key_rr (a b:Str):decide ((Sum.inr a:Key)=Sum.inr b)=decide (a=b):=by
 by_cases e:a=b
 ·
  subst e; simp
 ·
  have h:¬ (Sum.inr a:Key)=Sum.inr b:=fun q=>e (Sum.inr.inj q)
  rw [decide_eq_false h,decide_eq_false e]
theorem key_lr (a:Int) (b:Str):decide ((Sum.inl a:Key)=Sum.inr b)=false:=decide_eq_false (fun q=>nomatch q)
theorem key_rl (a:Str) (b:Int):decide ((Sum.inr a:Key)=Sum.inl b)=false:=decide_eq_false (fun q=>nomatch q)
def mixKind (prog:Program) (w:World):PySem.KeyKind prog w Key where
 is:=keyIs
 hash:=keyH w
 inj:=fun v a b ha hb=>by
  rcases keyIs_shape ha with ⟨i,t,rfl,rfl⟩ | ⟨x,t,rfl,rfl⟩
  ·
   rcases keyIs_shape hb with ⟨j,u,rfl,e⟩ | ⟨y,u,rfl,e⟩
   ·
    injection e with e1 _; rw [e1]
   ·
    exact nomatch e
  ·
   rcases keyIs_shape hb with ⟨j,u,rfl,e⟩ | ⟨y,u,rfl,e⟩
   ·
    exact nomatch e
   ·
    injection e with e1 _; rw [e1]
 byValue:=fun k v h=>by
  rcases keyIs_shape h with ⟨i,t,rfl,rfl⟩ | ⟨x,t,rfl,rfl⟩ <;> rfl
 pyHash:=fun hv h=>by
  rcases keyIs_shape hv with ⟨i,t,rfl,rfl⟩ | ⟨x,t,rfl,rfl⟩
  ·
   exact wpAny_pyHash_int h
  ·
   exact wpAny_pyHash_str h
 eqBool:=fun hu hv h=>by
  rcases keyIs_shape hu with ⟨i,t,rfl,rfl⟩ | ⟨x,t,rfl,rfl⟩
  ·
   rcases keyIs_shape hv with ⟨j,u,rfl,rfl⟩ | ⟨y,u,rfl,rfl⟩
   ·
    rw [key_ll] at h; exact wpAny_eqBool_int h
   ·
    rw [key_lr] at h; exact SeqAt.EqAt.int_str i t y u _ _ _ _ h
  ·
   rcases keyIs_shape hv with ⟨j,u,rfl,rfl⟩ | ⟨y,u,rfl,rfl⟩
   ·
    rw [key_rl] at h; exact SeqAt.EqAt.str_int x t j u _ _ _ _ h
   ·
    rw [key_rr] at h; exact wpAny_eqBool_str h
 «strs»:=fun k x t v h=>by
  rcases keyIs_shape h with ⟨i,u,rfl,e⟩ | ⟨y,u,rfl,e⟩
  ·
   exact nomatch e
  ·
   injection e with e1 _
   subst e1
   cases v <;> rfl
theorem mixKind_int (prog:Program) (w:World) (i:Int) (t:Tok):(mixKind prog w).is (.inl i) (.int i t)=true:=keyIs_int i t
theorem mixKind_str (prog:Program) (w:World) (x:Str) (t:Tok):(mixKind prog w).is (.inr x) (.str x t)=true:=keyIs_str x t
end L2
namespace L2
open PySem PySem.Spec PyProof.Rows
inductive V where
 | non | bl (b:Bool) | int (i:Int) | str (x:Str) | byt (b:Array UInt8) | flt (b:UInt64) | ref (a:Addr) | ty (n:String)
 deriving DecidableEq
def RelV:V→Value→Prop
 | .non,u=>u=Value.none
 | .bl b,u=>u=Value.bool b
 | .int i,u=>∃ t,u=Value.int i t
 | .str x,u=>∃ t,u=Value.str x t
 | .byt b,u=>∃ t,u=Value.bytes b t
 | .flt b,u=>∃ t,u=Value.float b t
 | .ref a,u=>u=Value.ref a
 | .ty n,u=>u=Value.type n
abbrev Vals:List V→List Value→Prop:=Paired RelV
theorem Vals.length {xs:List V} {us:List Value} (r:Vals xs us):xs.length=us.length:=Paired.length r
theorem Vals.get:∀ {xs:List V} {us:List Value} {i:Nat} {x:V},Vals xs us→xs[i]?=some x→∃ u,us[i]?=some u∧RelV x u
 | _,_,_,_,.nil,e=>by simp at e
 | _,_,0,_,.cons r _,e=>by simp at e; subst e; exact ⟨_,rfl,r⟩
 | _,_,i+1,x,.cons _ t,e=>by
  obtain ⟨u,h1,h2⟩:=Vals.get (i:=i) (x:=x) t (by simpa using e)
  exact ⟨u,by simpa using h1,h2⟩
theorem Vals.set {x:V} {u:Value} (r:RelV x u):∀ {xs:List V} {us:List Value} (i:Nat),Vals xs us→Vals (xs.set i x) (us.set i u)
 | _,_,_,.nil=>.nil
 | _,_,0,.cons _ t=>.cons r t
 | _,_,i+1,.cons q t=>.cons q (Vals.set r i t)
theorem Vals.append:∀ {xs ys:List V} {us ws:List Value},Vals xs us→Vals ys ws→Vals (xs++ys) (us++ws)
 | _,_,_,_,.nil,s=>s
 | _,_,_,_,.cons r t,s=>.cons r (Vals.append t s)
theorem Vals.take:∀ {xs:List V} {us:List Value} (n:Nat),Vals xs us→Vals (xs.take n) (us.take n)
 | _,_,0,_=>.nil
 | _,_,_+1,.nil=>.nil
 | _,_,n+1,.cons r t=>.cons r (Vals.take n t)
theorem Vals.drop:∀ {xs:List V} {us:List Value} (n:Nat),Vals xs us→Vals (xs.drop n) (us.drop n)
 | _,_,0,r=>r
 | _,_,_+1,.nil=>.nil
 | _,_,n+1,.cons _ t=>Vals.drop n t
def RelO:Option V→Option Value→Prop
 | some v,some u=>RelV v u
 | none,none=>True
 | _,_=>False
def KV {κ:Type}:List (κ×V)→List (κ×Value)→Prop:=Paired fun (p:κ×V) (q:κ×Value)=>p.1=q.1∧RelV p.2 q.2
def kV:Key→V
 | .inl i=>.int i
 | .inr x=>.str x
inductive HO where
 /-- a list -/
 | lst (xs:List V)
 /-- a tuple (never changes) -/
 | tup (xs:List V)
 /-- a dict whose keys are ints and texts; one whose keys are tuples of ints and texts (the empty one is both) -/
 | dK (kvs:List (Key×V)) | dT (kvs:List (List Key×V))
 /-- a set of ints: its members,its size -/
 | set (S:Int→Bool) (n:Nat)
 /-- an instance of the class at C,its dict at dx,its attributes -/
 | ins (C dx:Addr) (fs:List (Str×V))
 /-- the dict of the instance at x -/
 | own (x:Addr)
 /-- the dict of an exception -/
 | xd (fs:List (Str×V))
 /-- a bound method,f of x -/
 | met (f x:Addr)
 /-- a range object lo,lo+1,.. below hi -/
 | rng (lo hi:Int)
 /-- a thing that is known to the object (the script; a dict while a loop walks it): read,never written while it is so -/
 | frz (o:Obj) (u:HO)
 /-- a code object's table -/
 | tbl (q:Str)
 /-- any other thing,by what is true of its one object (a def of one's own: SetO a S n:=HO.ext fun h=>..) -/
 | ext (φ:Heap→Prop)
abbrev Hp:=Addr→Option HO
def upd (H:Hp) (a:Addr) (o:HO):Hp:=fun b=>if b=a then some o else H b
theorem upd_same {H:Hp} {a:Addr} {o:HO}:upd H a o a=some o:=by unfold upd; rw [if_pos rfl]
theorem upd_ne {H:Hp} {a b:Addr} {o:HO} (h:b≠a):upd H a o b=H b:=by unfold upd; rw [if_neg h]
theorem ne_of_none {H:Hp} {a b:Addr} {o:HO} (h:H a=some o) (h':H b=none):a≠b:=by
 intro e; subst e; rw [h] at h'; cases h'
def CodeOb (oc:Obj) (q:Str):Prop:=∃ vs t,oc.data=.fields vs∧vs[1]?=some (.str q t)
section
variable (P:Program) (w:World)
def ObjOk (H:Hp) (h:Heap) (a:Addr):HO→Prop
 | .lst xs=>xs.length≤sizeLine∧∃ (its:List Value) (n:Nat),Vals xs its∧h.get? a=some { cls:=.type "list",data:=.seq its.toArray n }
 | .tup xs=>xs.length≤sizeLine∧∃ its:List Value,Vals xs its∧IsTup h a its.toArray
 | .dK kvs=>kvs.length≤sizeLine∧(a == sysModules)=false∧∃ vs,KV kvs vs∧h.DictOf (mixKind P w) a vs
 | .dT kvs=>kvs.length≤sizeLine∧(a == sysModules)=false∧∃ xs:List (List Key×Addr×Value),
   Paired (fun (p:List Key×V) (q:List Key×Addr×Value)=>p.1=q.1∧H q.2.1=some (.tup (p.1.map kV))∧RelV p.2 q.2.2) kvs xs ∧
   ∃ o es ep,h.get? a=some o∧o.ExactDict∧o.data=.dict es ep∧es.toList=xs.map (entryOfKey (tupleKind (mixKind P w)))∧(xs.map (·.1)).Nodup
 | .set S n=>h.SetOf (intKind P w) a S n
 | .ins C dx fs=>H dx=some (.own a)∧fs.length≤1000∧dx≠a∧h.get? a=some (PySem.W.instObj C dx) ∧
   ∃ mA,h.Ns1 dx mA∧(∀ f,RelO (fs.lookup f) (mA f))∧PySem.Within mA (fs.map (·.1))
 | .own _=>∃ o,h.get? a=some o
 | .xd fs=>∃ mA,h.Ns1 a mA∧∀ f,RelO (fs.lookup f) (mA f)
 | .rng lo hi=>∃ t u v,h.get? a=some { cls:=.type "range",data:=.fields #[.int lo t,.int hi u,.int 1 v] }
 | .frz o u=>h.get? a=some o∧ObjOk H h a u
 | .tbl q=>∃ ps:Array Value,h.get? a=some { cls:=.none,data:=.fields ps }∧TriplesOk ps.toList∧∀ pos cv,codeAmong pos ps.toList=some cv→∃ c' oc,cv=.ref c'∧H c'=some (.frz oc (.own c'))∧CodeOb oc q
 | .met f x=>h.get? a=some (PySem.W.methodObj (.ref f) (.ref x))
 | .ext φ=>φ h∧(∃ o,h.get? a=some o)∧∀ h1 h2:Heap,φ h1→(∀ o,h1.get? a=some o→h2.get? a=some o)→φ h2
def HOk (H:Hp) (h:Heap):Prop:=∀ a o,H a=some o→ObjOk P w H h a o
end
section
variable {P:Program} {w:World} {H H':Hp} {h h':Heap} {a:Addr} {o:HO}
theorem ObjOk.lt (x:ObjOk P w H h a o):a < h.objs.size:=by
 cases o with
 | lst xs=>obtain ⟨_,_,_,_,e⟩:=x; exact Heap.lt_size e
 | tup xs=>obtain ⟨_,_,_,p⟩:=x; exact p.lt
 | dK kvs=>obtain ⟨_,_,_,_,o,_,_,e,_⟩:=x; exact Heap.lt_size e
 | dT kvs=>obtain ⟨_,_,_,_,o,_,_,e,_⟩:=x; exact Heap.lt_size e
 | set S n=>obtain ⟨o,_,_,_,e,_⟩:=x; exact Heap.lt_size e
 | ins C dx fs=>obtain ⟨_,_,_,e,_⟩:=x; exact Heap.lt_size e
 | own y=>obtain ⟨_,e⟩:=x; exact Heap.lt_size e
 | xd fs=>obtain ⟨_,⟨_,_,_,e,_⟩,_⟩:=x; exact Heap.lt_size e
 | rng lo hi=>obtain ⟨_,_,_,e⟩:=x; exact Heap.lt_size e
 | frz ob u=>obtain ⟨e,_⟩:=x; exact Heap.lt_size e
 | tbl q=>obtain ⟨_,e,_⟩:=x; exact Heap.lt_size e
 | met f y=>exact Heap.lt_size (show h.get? a=some _ from x)
 | ext φ=>obtain ⟨_,⟨_,e⟩,_⟩:=x; exact Heap.lt_size e
theorem Paired.mapP {α β:Type} {F G:α→β→Prop}:∀ {l₁:List α} {l₂:List β},Paired F l₁ l₂→(∀ a b,F a b→G a b)→Paired G l₁ l₂
 | _,_,.nil,_=>.nil
 | _,_,.cons r t,f=>.cons (f _ _ r) (Paired.mapP t f)
theorem ObjOk.stay (x:ObjOk P w H h a o) (k:∀ b u,(b=a∨H b=some (.own a))→h.get? b=some u→h'.get? b=some u)
  (ho:∀ b,H b=some (.own a)→H' b=some (.own a)) (ht:∀ b xs,H b=some (.tup xs)→H' b=some (.tup xs)) (hf:∀ b o q,CodeOb o q→H b=some (.frz o (.own b))→H' b=some (.frz o (.own b))):ObjOk P w H' h' a o:=by
 induction o with
 | lst xs=>obtain ⟨z,its,n,r,e⟩:=x; exact ⟨z,its,n,r,k _ _ (.inl rfl) e⟩
 | tup xs=>obtain ⟨z,its,r,ob,e,c⟩:=x; exact ⟨z,its,r,ob,k _ _ (.inl rfl) e,c⟩
 | dK kvs=>obtain ⟨z,y,vs,r,ob,es,ep,e,c⟩:=x; exact ⟨z,y,vs,r,ob,es,ep,k _ _ (.inl rfl) e,c⟩
 | dT kvs =>
  obtain ⟨z,y,xs,r,ob,es,ep,e,c⟩:=x
  exact ⟨z,y,xs,Paired.mapP r fun p q z=>⟨z.1,ht _ _ z.2.1,z.2.2⟩,ob,es,ep,k _ _ (.inl rfl) e,c⟩
 | set S n=>obtain ⟨ob,es,ep,t,e,c⟩:=x; exact ⟨ob,es,ep,t,k _ _ (.inl rfl) e,c⟩
 | ins C dx fs =>
  obtain ⟨d,z,ne,e,mA,⟨od,es,ep,e2,c⟩,r⟩:=x
  exact ⟨ho _ d,z,ne,k _ _ (.inl rfl) e,mA,⟨od,es,ep,k _ _ (.inr d) e2,c⟩,r⟩
 | own y=>obtain ⟨ob,e⟩:=x; exact ⟨ob,k _ _ (.inl rfl) e⟩
 | xd fs=>obtain ⟨mA,⟨od,es,ep,e,c⟩,r⟩:=x; exact ⟨mA,⟨od,es,ep,k _ _ (.inl rfl) e,c⟩,r⟩
 | rng lo hi=>obtain ⟨t,u,v,e⟩:=x; exact ⟨t,u,v,k _ _ (.inl rfl) e⟩
 | frz ob u ih=>obtain ⟨e,q⟩:=x; exact ⟨k _ _ (.inl rfl) e,ih q⟩
 | tbl q =>
  obtain ⟨ps,e,tr,m⟩:=x
  exact ⟨ps,k a _ (.inl rfl) e,tr,fun pos cv z=>let ⟨c',oc,a1,a2,a3⟩:=m pos cv z; ⟨c',oc,a1,hf _ _ _ a3 a2,a3⟩⟩
 | met f y =>
  have e:h.get? a=some (PySem.W.methodObj (.ref f) (.ref y)):=x
  show h'.get? a=some (PySem.W.methodObj (.ref f) (.ref y))
  exact k a _ (.inl rfl) e
 | ext φ=>obtain ⟨p,⟨o,e⟩,st⟩:=x; exact ⟨st _ _ p fun o q=>k _ _ (.inl rfl) q,⟨o,k _ _ (.inl rfl) e⟩,st⟩
theorem HOk.lt (x:HOk P w H h) (e:H a=some o):a < h.objs.size:=(x a o e).lt
theorem HOk.fresh (x:HOk P w H h) (e:h.objs.size≤a):H a=none:=by
 cases q:H a with
 | none=>rfl
 | some u=>exact absurd (Nat.lt_of_lt_of_le (x.lt q) e) (Nat.lt_irrefl _)
theorem HOk.kept (x:HOk P w H h) (k:∀ b u,h.get? b=some u→h'.get? b=some u):HOk P w H h':=fun a o e =>
 (x a o e).stay (fun b u _ q=>k b u q) (fun _ q=>q) (fun _ _ q=>q) fun _ _ _ _ q=>q
theorem HOk.laid (x:HOk P w H h) (k:∀ b u,h.get? b=some u→h'.get? b=some u) (hp:h.objs.size≤a) (new:ObjOk P w (upd H a o) h' a o):HOk P w (upd H a o) h':=fun b u e=>by
 have hn:=x.fresh hp
 by_cases hb:b=a
 ·
  subst hb; rw [upd_same] at e; cases e; exact new
 ·
  rw [upd_ne hb] at e
  exact (x b u e).stay (fun c v _ q=>k c v q) (fun c q=>by rw [upd_ne (ne_of_none q hn)]; exact q) (fun c xs q=>by rw [upd_ne (ne_of_none q hn)]; exact q) fun c ob _ _ q=>by rw [upd_ne (ne_of_none q hn)]; exact q
end
def Rd (H:Hp) (a:Addr) (u:HO):Prop:=H a=some u∨∃ o,H a=some (.frz o u)
theorem Rd.of {H:Hp} {a:Addr} {u:HO} (h:H a=some u):Rd H a u:=.inl h
theorem Rd.ok {P:Program} {w:World} {H:Hp} {h:Heap} {a:Addr} {u:HO} (r:Rd H a u) (x:HOk P w H h):ObjOk P w H h a u:=by
 rcases r with r | ⟨o,r⟩
 ·
  exact x a u r
 ·
  obtain ⟨_,q⟩:=x a _ r
  exact q
def Mut:Option HO→Prop
 | some (.lst _)=>True
 | some (.dK _)=>True
 | some (.dT _)=>True
 | some (.set _ _)=>True
 | some (.ins _ _ _)=>True
 | some (.ext _)=>True
 | _=>False
section
variable {P:Program} {w:World} {H:Hp} {h h':Heap} {x e:Addr} {o':HO}
theorem HOk.write (ok:HOk P w H h) (mu:Mut (H x)) (he:e=x∨H e=some (.own x)) (k:∀ b u,b≠e→h.get? b=some u→h'.get? b=some u) (heo:∃ u,h'.get? e=some u)
  (new:ObjOk P w (upd H x o') h' x o'):HOk P w (upd H x o') h':=fun b u q=>by
 have nown:∀ c y,H c=some (.own y)→c≠x:=fun c y r z=>by subst z; rw [r] at mu; exact mu
 have ntup:∀ c xs,H c=some (.tup xs)→c≠x:=fun c xs r z=>by subst z; rw [r] at mu; exact mu
 have nfrz:∀ c o u,H c=some (.frz o u)→c≠x:=fun c o u r z=>by subst z; rw [r] at mu; exact mu
 by_cases hb:b=x
 ·
  subst hb; rw [upd_same] at q; cases q; exact new
 ·
  rw [upd_ne hb] at q
  by_cases hbe:b=e
  ·
   have q':H b=some (.own x):=by
    rcases he with z | z
    ·
     exact absurd (hbe.trans z) hb
    ·
     rw [hbe]; exact z
   rw [q] at q'; cases q'
   obtain ⟨v,hv⟩:=heo
   exact ⟨v,by rw [hbe]; exact hv⟩
  ·
   refine (ok b u q).stay (fun c v hc r=>k c v ?_ r) (fun c r=>by rw [upd_ne (nown c b r)]; exact r) (fun c xs r=>by rw [upd_ne (ntup c xs r)]; exact r) fun c ob _ _ r=>by rw [upd_ne (nfrz c ob _ r)]; exact r
   rcases hc with rfl | hc
   ·
    exact hbe
   ·
    rintro rfl
    rcases he with z | z
    ·
     exact nown c b hc z
    ·
     rw [hc] at z; cases z; exact hb rfl
end
structure Un (fs ex:List Addr) (H H':Hp) (h h':Heap):Prop where
 keep:∀ b o,h.get? b=some o→H b=none→b∉fs→b∉ex→h'.get? b=some o
 slot:∀ b o,h.get? b=some o→H b=none→b∈fs→b∉ex→∃ sl,h'.get? b=some { o with slots:=sl }
 free:∀ b o,h.get? b=some o→H b=none→b∉ex→H' b=none
 there:∀ b o,h.get? b=some o→b∉ex→∃ o',h'.get? b=some o'
 tups:∀ b xs,H b=some (.tup xs)→H' b=some (.tup xs)
 frzs:∀ b o u,H b=some (.frz o u)→H' b=some (.frz o u)
 tbls:∀ b q,H b=some (.tbl q)→H' b=some (.tbl q)
section
variable {fs fs' ex ex':List Addr} {H H1 H2:Hp} {h h1 h2 h':Heap} {a x e:Addr} {o:HO}
theorem Un.any (u:Un fs ex H H1 h h1) {b:Addr} {ob:Obj} (q:h.get? b=some ob) (n:H b=none) (hx:b∉ex):∃ sl,h1.get? b=some { ob with slots:=sl }:=by
 by_cases hb:b∈fs
 ·
  exact u.slot b ob q n hb hx
 ·
  exact ⟨ob.slots,u.keep b ob q n hb hx⟩
theorem Un.trans (a:Un fs ex H H1 h h1) (b:Un fs ex H1 H2 h1 h2):Un fs ex H H2 h h2 where
 keep:=fun c ob q n hc hx=>b.keep c ob (a.keep c ob q n hc hx) (a.free c ob q n hx) hc hx
 slot:=fun c ob q n hc hx=>by
  obtain ⟨sl,e1⟩:=a.slot c ob q n hc hx
  obtain ⟨sl',e2⟩:=b.slot c _ e1 (a.free c ob q n hx) hc hx
  exact ⟨sl',e2⟩
 free:=fun c ob q n hx=>by
  obtain ⟨o',e1⟩:=a.there c ob q hx
  exact b.free c o' e1 (a.free c ob q n hx) hx
 there:=fun c ob q hx=>by
  obtain ⟨o',e1⟩:=a.there c ob q hx
  exact b.there c o' e1 hx
 tups:=fun c xs q=>b.tups c xs (a.tups c xs q)
 frzs:=fun c ob xs q=>b.frzs c ob xs (a.frzs c ob xs q)
 tbls:=fun c ps q=>b.tbls c ps (a.tbls c ps q)
theorem Un.kept (k:∀ b u,h.get? b=some u→h'.get? b=some u):Un fs ex H H h h' :=
 ⟨fun b ob q _ _ _=>k b ob q,fun b ob q _ _ _=>⟨ob.slots,k b ob q⟩,fun _ _ _ n _=>n,fun b ob q _=>⟨ob,k b ob q⟩,fun _ _ q=>q,fun _ _ _ q=>q,fun _ _ q=>q⟩
theorem Un.refl:Un fs ex H H h h:=Un.kept fun _ _ q=>q
theorem Un.laid (k:∀ b u,h.get? b=some u→h'.get? b=some u) (hp:h.objs.size≤a) (hn:H a=none):Un fs ex H (upd H a o) h h' where
 keep:=fun b u q _ _ _=>k b u q
 slot:=fun b u q _ _ _=>⟨u.slots,k b u q⟩
 free:=fun b u q n _=>by rw [upd_ne (Nat.ne_of_lt (Nat.lt_of_lt_of_le (Heap.lt_size q) hp))]; exact n
 there:=fun b u q _=>⟨u,k b u q⟩
 tups:=fun b xs q=>by rw [upd_ne (ne_of_none q hn)]; exact q
 frzs:=fun b u xs q=>by rw [upd_ne (ne_of_none q hn)]; exact q
 tbls:=fun b ps q=>by rw [upd_ne (ne_of_none q hn)]; exact q
theorem Un.write (mu:Mut (H x)) (he:e=x∨H e=some (.own x)) (k:∀ b u,b≠e→h.get? b=some u→h'.get? b=some u) (heo:∃ u,h'.get? e=some u):Un fs ex H (upd H x o) h h':=by
 have hx:∀ b,H b=none→b≠x:=fun b n z=>by subst z; rw [n] at mu; exact mu
 have hb:∀ b,H b=none→b≠e:=fun b n z=>by
  subst z
  rcases he with r | r
  ·
   exact hx b n r
  ·
   rw [n] at r; cases r
 have hm:∀ b u,H b=some u→¬ Mut (some u)→b≠x:=fun b u q nm z=>by subst z; rw [q] at mu; exact nm mu
 refine ⟨fun b u q n _ _=>k b u (hb b n) q,fun b u q n _ _=>⟨u.slots,k b u (hb b n) q⟩,fun b u q n _=>by rw [upd_ne (hx b n)]; exact n,fun b u q _=>?_,
  fun b xs q=>by rw [upd_ne (hm b _ q fun z=>z)]; exact q,fun b u xs q=>by rw [upd_ne (hm b _ q fun z=>z)]; exact q,fun b ps q=>by rw [upd_ne (hm b _ q fun z=>z)]; exact q⟩
 by_cases hbe:b=e
 ·
  subst hbe; exact heo
 ·
  exact ⟨u,k b u hbe q⟩
theorem Un.mono (u:Un fs ex H H1 h h1) (hs:∀ b∈fs,b∈fs') (hx:∀ b∈ex,b∈ex'):Un fs' ex' H H1 h h1 :=
 ⟨fun b ob q n hb he=>u.keep b ob q n (fun z=>hb (hs b z)) fun z=>he (hx b z),fun _ _ q n _ he=>u.any q n fun z=>he (hx _ z),fun b ob q n he=>u.free b ob q n fun z=>he (hx b z),fun b ob q he=>u.there b ob q fun z=>he (hx b z),u.tups,u.frzs,u.tbls⟩
end
def trk (h:Heap) (H:Hp):List Addr:=(List.range h.objs.size).filter fun a=>(H a).isSome
def hidT (h:Heap) (H:Hp):Heap:=PySem.W.hideAll h (trk h H)
theorem hidT_size (h:Heap) (H:Hp):(hidT h H).objs.size=h.objs.size:=PySem.W.hideAll_size _ _
theorem hidT_get {h:Heap} {H:Hp} {b:Addr} {o:Obj} (e:h.get? b=some o) (n:H b=none):(hidT h H).get? b=some o :=
 PySem.W.hideAll_get _ e fun hm=>by
  have q:(H b).isSome=true:=(List.mem_filter.mp hm).2
  rw [n] at q; simp at q
theorem of_hidT {h:Heap} {H:Hp} {b:Addr} {o:Obj} (e:(hidT h H).get? b=some o):h.get? b=some o∧H b=none:=by
 have e':h.get? b=some o:=PySem.W.of_hideAll (trk h H) e
 refine ⟨e',?_⟩
 cases q:H b with
 | none=>rfl
 | some x =>
  have hm:b∈trk h H:=List.mem_filter.mpr ⟨List.mem_range.mpr (Heap.lt_size e'),by simp [q]⟩
  have z:(hidT h H).get? b=none:=PySem.W.hideAll_none (trk h H) hm
  rw [z] at e; cases e
def allNews (g h:Heap) (L:Addr):List (Addr×Obj):=(List.range h.objs.size).filterMap fun a=>if a=L∨(g.get? a).isSome=true then none else (h.get? a).map fun o=>(a,o)
def rest (g h:Heap) (L d:Addr):List (Addr×Obj):=(allNews g h L).filter fun p=>decide (p.1≠d)
end L2
namespace L2
open PySem PySem.Spec PyProof.Rows
def BMain (mg:Str→Option Value) (h:Heap):Prop:=∃ bm ob,mg "__builtins__"=some (.ref bm)∧bm≠builtinsNs∧h.get? bm=some ob∧ob.cls=.type "module"∧ob.dict=some builtinsNs∧ob.data=.plain
def lamNames:List Str:=["look_at_asks","by_lesser_place","look_at_string"]
def lamQ (x:Str):Str:=(x++".<locals>.")++"<lambda>"
def Tbs (K:PySem.W.Frag) (H:Hp):Prop:=∀ x∈lamNames,∀ c P,PySem.W.tabIn K x=some (c,P)→H P=some (.tbl (lamQ x))
theorem Tbs.un {K:PySem.W.Frag} {fs ex:List Addr} {H H':Hp} {h h':Heap} (t:Tbs K H) (u:Un fs ex H H' h h'):Tbs K H':=fun x hx c P e=>u.tbls _ _ (t x hx c P e)
structure Mod (K:PySem.W.Frag) (mg:Str→Option Value) (base:Heap):Prop where
 kin:K.In base
 glob:base.Ns mainGlobals mg
 blt:∃ mb,base.Ns builtinsNs mb∧∀ x:Str,x≠"__name__"→mb x=bootBuiltins x
 nolimit:base.NoLimit
 sysm:∃ mm,base.Ns sysModules mm
 bmn:BMain mg base
 cds:∀ x∈lamNames,∀ c P,PySem.W.tabIn K x=some (c,P)→PySem.W.CodeHd base c P
/-- the context: a def's body (or a comprehension's block) running. base: fixed through the whole law; s₀,H₀: the entry; outer: the frames whose slots others may change (a def's callers); stack: all frames that run;
  ex: iterators that were made ahead of the entry and are walked here (a comprehension's); fn: the names whose cells were made at the entry (a def: all; a comprehension's block: its own); calm: not within an except suite; pn: pins that every state bears; xe: what is wanted of an exception that leaves the code -/
structure Cx where
 prog:Program
 w:World
 K:PySem.W.Frag
 mg:Str→Option Value
 base:Heap
 A:Around
 N:List Str
 s₀:Shared
 H₀:Hp
 env:Env
 outer:List Env
 stack:List Env
 ex:List Addr
 fn:Str→Bool
 calm:Bool
 pn:List (Addr×Obj)
 xe:Value→Shared→Prop
def frs (l:List Env):List Addr:=l.filterMap (·.frame)
abbrev Cx.fs (X:Cx):List Addr:=frs X.outer
def Vis (sc:Scope) (x:Str):Prop:=sc.names.lookup x=some .local∨sc.names.lookup x=some .cell∨sc.names.lookup x=some .free
def Loc (sc:Scope) (x:Str):Prop:=sc.names.lookup x=some .local∨sc.names.lookup x=some .cell
def Look (env:Env) (h:Heap) (m:Str→Option Value) (x:Str) (u:Value):Prop :=
 (env.kindOf x=some .local∧m x=some u)∨((env.kindOf x=some .cell∨env.kindOf x=some .free)∧∃ c,env.cells.lookup x=some c∧h.IsCell c (some u))
structure Cx.Ok (X:Cx):Prop where
 mod:Mod X.K X.mg X.base
 kind:X.env.scope.kind=.function
 glob:X.env.globals=mainGlobals
 blt:X.env.builtins=builtinsNs
 above:X.s₀.heap.objs.size≤X.env.locals
 inj:∀ x y c,X.env.cells.lookup x=some c→X.env.cells.lookup y=some c→x=y
 has:∀ x,(X.env.kindOf x=some .cell∨X.env.kindOf x=some .free)→∃ c,X.env.cells.lookup x=some c
 cab:∀ x c,X.fn x=true→X.env.cells.lookup x=some c→X.s₀.heap.objs.size≤c
 hd:X.calm=true→X.A.handled=none
 frames:X.A.frames=some X.stack
 stk:X.stack=X.outer∨(X.stack=X.env::X.outer∧X.env.frame=some X.env.locals)
 exf:∀ b∈X.ex,b≠X.env.locals∧∀ x c,X.env.cells.lookup x=some c→c≠b
 bs:∀ b o,X.base.get? b=some o→X.s₀.heap.get? b=some o∧X.H₀ b=none
 bsz:X.base.objs.size≤X.s₀.heap.objs.size
 noex:∀ b o,X.base.get? b=some o→b∉X.ex
 exfs:∀ b∈X.ex,b∉X.fs
 funs:X.s₀.heap.FunFrames X.base X.outer
 frf:∀ b∈X.fs,X.H₀ b=none
 tbs:Tbs X.K X.H₀
structure Inv (X:Cx) (pins:List (Addr×Obj)) (σ:List (Option V)) (H:Hp) (s:Shared):Prop where
 ok:X.Ok
 os:s.os=X.s₀.os
 bare:AllBare s.gens
 base:Un X.fs X.ex X.H₀ H X.s₀.heap s.heap
 loc:∃ m,s.heap.Ns X.env.locals m∧∀ (i:Nat) (x:Str) (v:V),X.N[i]?=some x→σ[i]?=some (some v)→Vis X.env.scope x→∃ u,RelV v u∧Look X.env s.heap m x u
 cell:∀ x c,X.env.cells.lookup x=some c→∃ v,s.heap.IsCell c v
 free:H X.env.locals=none
 freeC:∀ x c,X.env.cells.lookup x=some c→H c=none∨(X.fn x=false∧∃ o,H c=some (.frz o (.own c)))
 pin:∀ p∈X.pn++pins,s.heap.get? p.1=some p.2∧H p.1=none∧p.1≠X.env.locals∧p.1∉X.fs∧∀ v,p.2.data≠.cell v
 hok:HOk X.prog X.w H s.heap
 len:σ.length=X.N.length
section
variable {X:Cx} {pins:List (Addr×Obj)} {σ:List (Option V)} {H H':Hp} {s:Shared} {h':Heap}
theorem Cx.Ok.nofr (ok:X.Ok) {b:Addr} {o:Obj} (e:X.base.get? b=some o):b∉X.fs:=fun hb=>by
 have:=(ok.funs.mem hb).1
 rw [e] at this; cases this
theorem Inv.bs (I:Inv X pins σ H s):∀ b o,X.base.get? b=some o→s.heap.get? b=some o∧H b=none:=fun b o e =>
 ⟨I.base.keep b o (I.ok.bs b o e).1 (I.ok.bs b o e).2 (I.ok.nofr e) (I.ok.noex b o e),I.base.free b o (I.ok.bs b o e).1 (I.ok.bs b o e).2 (I.ok.noex b o e)⟩
theorem Inv.bk (I:Inv X pins σ H s):∀ b o,X.base.get? b=some o→s.heap.get? b=some o:=fun b o e=>(I.bs b o e).1
theorem Inv.tbs (I:Inv X pins σ H s):Tbs X.K H:=I.ok.tbs.un I.base
theorem Inv.mod (I:Inv X pins σ H s):Mod X.K X.mg X.base:=I.ok.mod
theorem Inv.kIn (I:Inv X pins σ H s):X.K.In s.heap:=I.ok.mod.kin.keeps I.bk
theorem Inv.nolimit (I:Inv X pins σ H s):s.heap.NoLimit:=I.ok.mod.nolimit.keeps I.bk
theorem Inv.fr (I:Inv X pins σ H s):∃ m,Fr X.base X.env.locals s.heap m :=
 let ⟨m,hn,_⟩:=I.loc
 ⟨m,hn,I.bk,Nat.le_trans I.ok.bsz I.ok.above⟩
theorem Inv.lt (I:Inv X pins σ H s):X.env.locals < s.heap.objs.size:=let ⟨_,hn,_⟩:=I.loc; hn.lt
theorem Inv.sz (I:Inv X pins σ H s):X.s₀.heap.objs.size≤s.heap.objs.size:=Nat.le_trans I.ok.above (Nat.le_of_lt I.lt)
theorem Inv.nofs (I:Inv X pins σ H s) {a:Addr} (h:s.heap.objs.size≤a):a∉X.fs:=fun hb=>by
 obtain ⟨_,o,ho,_⟩:=I.ok.funs.mem hb
 exact absurd (Nat.lt_of_lt_of_le (Heap.lt_size ho) (Nat.le_trans I.sz h)) (Nat.lt_irrefl _)
theorem Inv.cne (I:Inv X pins σ H s):∀ x c,X.env.cells.lookup x=some c→c≠X.env.locals:=fun x c e z=>by
 obtain ⟨v,o,ho,hd⟩:=I.cell x c e
 obtain ⟨m,⟨o',es,ep,ho',hd',_⟩,_⟩:=I.loc
 rw [z,ho'] at ho; cases ho; rw [hd'] at hd; cases hd
theorem Inv.funs (I:Inv X pins σ H s):s.heap.FunFrames X.base X.outer:=by
 have all:∀ (l:List Env),(∀ b∈frs l,b∈X.fs)→X.s₀.heap.FunFrames X.base l→s.heap.FunFrames X.base l:=by
  intro l
  induction l with
  | nil=>intro _ _; trivial
  | cons env r ih =>
   intro hs hl
   obtain ⟨hk,⟨L,o,hf,hn,ho,hd⟩,hr⟩:=hl
   have hL:L∈X.fs:=hs L (by unfold frs; rw [List.filterMap_cons,hf]; exact List.mem_cons_self)
   obtain ⟨sl,e⟩:=I.base.slot L o ho (I.ok.frf L hL) hL fun z=>I.ok.exfs L z hL
   exact ⟨hk,⟨L,_,hf,hn,e,hd⟩,ih (fun b hb=>hs b (by unfold frs; rw [List.filterMap_cons,hf]; exact List.mem_cons_of_mem _ hb)) hr⟩
 exact all X.outer (fun _ hb=>hb) I.ok.funs
theorem Inv.stack (I:Inv X pins σ H s):s.heap.FunFrames X.base X.stack:=by
 rcases I.ok.stk with e | ⟨e,hf⟩
 ·
  rw [e]; exact I.funs
 ·
  rw [e]
  obtain ⟨m,hn,_⟩:=I.loc
  refine .cons (by rw [I.ok.kind]; decide) hf hn ?_ I.funs
  exact Heap.get?_none_of_le (Nat.le_trans I.ok.bsz I.ok.above)
theorem Inv.stkSub (I:Inv X pins σ H s):∀ b∈frs X.stack,b∈X.env.locals::X.fs:=fun b hb=>by
 rcases I.ok.stk with e | ⟨e,hf⟩
 ·
  rw [e] at hb; exact List.mem_cons_of_mem _ hb
 ·
  rw [e] at hb
  unfold frs at hb
  rw [List.filterMap_cons,hf] at hb
  exact hb
theorem Inv.stkFree (I:Inv X pins σ H s):∀ b∈frs X.stack,H b=none:=fun b hb=>by
 rcases List.mem_cons.mp (I.stkSub b hb) with e | hb
 ·
  rw [e]; exact I.free
 ·
  obtain ⟨_,o,ho,_⟩:=I.ok.funs.mem hb
  exact I.base.free b o ho (I.ok.frf b hb) fun z=>I.ok.exfs b z hb
theorem Inv.step {g':Array GenState} {t':Nat} {d':Drawn} {ch:List Addr} (I:Inv X pins σ H s)
  (hch:∀ b∈ch,(b∈X.ex∨X.s₀.heap.objs.size≤b)∧b≠X.env.locals∧(∀ x c,X.env.cells.lookup x=some c→c≠b)∧∀ p∈X.pn++pins,p.1≠b)
  (keep:∀ b o,b≠X.env.locals→b∉X.fs→b∉ch→s.heap.get? b=some o→H b=none→h'.get? b=some o)
  (slot:∀ b o,b≠X.env.locals→b∈X.fs→b∉ch→s.heap.get? b=some o→H b=none→∃ sl,h'.get? b=some { o with slots:=sl }) (free:∀ b o,b∉ch→s.heap.get? b=some o→H b=none→H' b=none)
  (there:∀ b o,b∉ch→s.heap.get? b=some o→∃ o',h'.get? b=some o')
  (tups:∀ b xs,H b=some (.tup xs)→H' b=some (.tup xs)) (frzs:∀ b o u,H b=some (.frz o u)→H' b=some (.frz o u)) (tbls:∀ b q,H b=some (.tbl q)→H' b=some (.tbl q))
  (ns:∀ m,s.heap.Ns X.env.locals m→h'.Ns X.env.locals m) (hok:HOk X.prog X.w H' h') (hg:AllBare g') :
  Inv X pins σ H' { s with heap:=h',gens:=g',drawn:=d',toks:=t' }:=by
 have neL:∀ b o,X.s₀.heap.get? b=some o→b≠X.env.locals:=fun b o e=>Nat.ne_of_lt (Nat.lt_of_lt_of_le (Heap.lt_size e) I.ok.above)
 have neC:∀ b o,X.s₀.heap.get? b=some o→b∉X.ex→b∉ch:=fun b o e hx hb=>by
  rcases (hch b hb).1 with z | z
  ·
   exact hx z
  ·
   exact absurd (Nat.lt_of_lt_of_le (Heap.lt_size e) z) (Nat.lt_irrefl _)
 have cellK:∀ x c,X.env.cells.lookup x=some c→∀ v,s.heap.IsCell c v→h'.IsCell c v:=fun x c e v ⟨o,ho,hd⟩=>by
  have nch:c∉ch:=fun z=>(hch c z).2.2.1 x c e rfl
  rcases I.freeC x c e with hn | ⟨_,o2,hz⟩
  ·
   by_cases hc:c∈X.fs
   ·
    obtain ⟨sl,q⟩:=slot c o (I.cne x c e) hc nch ho hn
    exact ⟨_,q,hd⟩
   ·
    exact ⟨o,keep c o (I.cne x c e) hc nch ho hn,hd⟩
  ·
   have e1:=(I.hok c _ hz).1
   rw [ho] at e1; cases e1
   exact ⟨o,(hok c _ (frzs c _ _ hz)).1,hd⟩
 refine ⟨I.ok,I.os,hg,⟨fun b o e n hb hx=>?_,fun b o e n hb hx=>?_,fun b o e n hx=>?_,fun b o e hx=>?_,fun b xs e=>tups b xs (I.base.tups b xs e),fun b o xs e=>frzs b o xs (I.base.frzs b o xs e),fun b ps e=>?_⟩,?_,fun x c e=>?_,?_,fun x c e=>?_,fun p hp=>?_,hok,I.len⟩
 ·
  exact keep b o (neL b o e) hb (neC b o e hx) (I.base.keep b o e n hb hx) (I.base.free b o e n hx)
 ·
  obtain ⟨sl,e1⟩:=I.base.slot b o e n hb hx
  obtain ⟨sl',e2⟩:=slot b _ (neL b o e) hb (neC b o e hx) e1 (I.base.free b o e n hx)
  exact ⟨sl',e2⟩
 ·
  obtain ⟨o',e1⟩:=I.base.there b o e hx
  exact free b o' (neC b o e hx) e1 (I.base.free b o e n hx)
 ·
  obtain ⟨o',e1⟩:=I.base.there b o e hx
  exact there b o' (neC b o e hx) e1
 ·
  exact tbls b ps (I.base.tbls b ps e)
 ·
  obtain ⟨m,hn,hl⟩:=I.loc
  refine ⟨m,ns m hn,fun i x v e1 e2 e3=>?_⟩
  obtain ⟨u,r,l⟩:=hl i x v e1 e2 e3
  refine ⟨u,r,?_⟩
  rcases l with l | ⟨k,c,e,z⟩
  ·
   exact .inl l
  ·
   exact .inr ⟨k,c,e,cellK x c e _ z⟩
 ·
  obtain ⟨v,z⟩:=I.cell x c e
  exact ⟨v,cellK x c e v z⟩
 ·
  obtain ⟨m,⟨o,_,_,ho,_⟩,_⟩:=I.loc
  exact free _ o (fun z=>(hch _ z).2.1 rfl) ho I.free
 ·
  obtain ⟨v,o,ho,hd⟩:=I.cell x c e
  rcases I.freeC x c e with hn | ⟨hf,o2,hz⟩
  ·
   exact .inl (free c o (fun z=>(hch c z).2.2.1 x c e rfl) ho hn)
  ·
   exact .inr ⟨hf,o2,frzs c _ _ hz⟩
 ·
  obtain ⟨e,n,ne,nf,d⟩:=I.pin p hp
  have nch:p.1∉ch:=fun z=>(hch p.1 z).2.2.2 p hp rfl
  exact ⟨keep p.1 p.2 ne nf nch e n,free p.1 p.2 nch e n,ne,nf,d⟩
theorem Inv.un {t':Nat} (I:Inv X pins σ H s) (u:Un X.fs [] H H' s.heap h') (hok:HOk X.prog X.w H' h'):Inv X pins σ H' { s with heap:=h',toks:=t' }:=by
 obtain ⟨m,⟨o,es,ep,ho,r⟩,_⟩:=id I.loc
 obtain ⟨sl,hL⟩:=u.any ho I.free (by simp)
 exact I.step (g':=s.gens) (d':=s.drawn) (ch:=[]) (fun _ z=>nomatch z) (fun b o _ hb _ e n=>u.keep b o e n hb (by simp)) (fun b o _ hb _ e n=>u.slot b o e n hb (by simp)) (fun b o _ e n=>u.free b o e n (by simp)) (fun b o _ e=>u.there b o e (by simp)) u.tups u.frzs u.tbls (fun m' hm=>by
  obtain ⟨o',es',ep',ho',r'⟩:=hm
  rw [ho] at ho'; cases ho'
  exact ⟨_,es',ep',hL,r'⟩) hok I.bare
theorem Inv.call {g':Array GenState} {t':Nat} {d':Drawn} {ch:List Addr} (I:Inv X pins σ H s) (u:Un (frs X.stack) ch H H' s.heap h') (hok:HOk X.prog X.w H' h') (hg:AllBare g')
  (hch:∀ b∈ch,(b∈X.ex∨X.s₀.heap.objs.size≤b)∧b≠X.env.locals∧(∀ x c,X.env.cells.lookup x=some c→c≠b)∧∀ p∈X.pn++pins,p.1≠b) :
  Inv X pins σ H' { s with heap:=h',gens:=g',drawn:=d',toks:=t' }:=by
 obtain ⟨m,⟨o,es,ep,ho,r⟩,_⟩:=id I.loc
 obtain ⟨sl,hL⟩:=u.any ho I.free fun z=>(hch _ z).2.1 rfl
 exact I.step (ch:=ch) hch (fun b o hL hb hc e n=>u.keep b o e n (fun z=>(List.mem_cons.mp (I.stkSub b z)).elim hL hb) hc) (fun b o _ _ hc e n=>u.any e n hc) (fun b o hc e n=>u.free b o e n hc) (fun b o hc e=>u.there b o e hc) u.tups u.frzs u.tbls (fun m' hm=>by
  obtain ⟨o',es',ep',ho',r'⟩:=hm
  rw [ho] at ho'; cases ho'
  exact ⟨_,es',ep',hL,r'⟩) hok hg
theorem Inv.turned {t':Nat} {it:Addr} (I:Inv X pins σ H s) (k:∀ b o,b≠it→s.heap.get? b=some o→h'.get? b=some o) (hn:H it=none) (hL:it≠X.env.locals)
  (h1:it∈X.ex∨X.s₀.heap.objs.size≤it) (h2:∀ x c,X.env.cells.lookup x=some c→c≠it) (h3:∀ p∈X.pn++pins,p.1≠it):Inv X pins σ H { s with heap:=h',toks:=t' }:=by
 have nit:∀ b u,H b=some u→b≠it:=fun b u e z=>by rw [z,hn] at e; cases e
 refine I.step (g':=s.gens) (d':=s.drawn) (ch:=[it]) (fun b hb=>?_) (fun b o _ _ hc e _=>k b o (fun z=>hc (by simp [z])) e) (fun b o _ _ hc e _=>⟨o.slots,k b o (fun z=>hc (by simp [z])) e⟩) (fun _ _ _ _ n=>n)
  (fun b o hc e=>⟨o,k b o (fun z=>hc (by simp [z])) e⟩) (fun _ _ e=>e) (fun _ _ _ e=>e) (fun _ _ e=>e) (fun m hm=>?_) (fun b u e=>?_) I.bare
 ·
  have e:b=it:=by simpa using hb
  subst e
  exact ⟨h1,hL,h2,h3⟩
 ·
  obtain ⟨o,es,ep,ho,r⟩:=hm
  exact ⟨o,es,ep,k _ o (Ne.symm hL) ho,r⟩
 ·
  refine (I.hok b u e).stay (fun c v hc q=>k c v ?_ q) (fun _ q=>q) (fun _ _ q=>q) fun _ _ _ _ q=>q
  rcases hc with z | z
  ·
   rw [z]; exact nit b u e
  ·
   exact nit c _ z
theorem Inv.tok (I:Inv X pins σ H s) (t:Nat):Inv X pins σ H { s with toks:=t }:=I.un (h':=s.heap) (t':=t) Un.refl I.hok
theorem Inv.kept {t':Nat} (I:Inv X pins σ H s) (k:∀ b u,s.heap.get? b=some u→h'.get? b=some u):Inv X pins σ H { s with heap:=h',toks:=t' }:=I.un (Un.kept k) (I.hok.kept k)
theorem Inv.laid {a:Addr} {o:HO} {t':Nat} (I:Inv X pins σ H s) (k:∀ b u,s.heap.get? b=some u→h'.get? b=some u) (hp:s.heap.objs.size≤a) (new:ObjOk X.prog X.w (upd H a o) h' a o) :
  Inv X pins σ (upd H a o) { s with heap:=h',toks:=t' }:=I.un (Un.laid k hp (I.hok.fresh hp)) (I.hok.laid k hp new)
theorem Inv.write {x e:Addr} {o:HO} {t':Nat} (I:Inv X pins σ H s) (mu:Mut (H x)) (he:e=x∨H e=some (.own x)) (k:∀ b u,b≠e→s.heap.get? b=some u→h'.get? b=some u) (heo:∃ u,h'.get? e=some u)
  (new:ObjOk X.prog X.w (upd H x o) h' x o):Inv X pins σ (upd H x o) { s with heap:=h',toks:=t' }:=I.un (Un.write mu he k heo) (I.hok.write mu he k heo new)
theorem Inv.pins_of {pins':List (Addr×Obj)} (I:Inv X pins σ H s) (h:∀ p∈pins',s.heap.get? p.1=some p.2∧H p.1=none∧p.1≠X.env.locals∧p.1∉X.fs∧∀ v,p.2.data≠.cell v):Inv X pins' σ H s :=
 ⟨I.ok,I.os,I.bare,I.base,I.loc,I.cell,I.free,I.freeC,fun p hp=>(List.mem_append.mp hp).elim (fun z=>I.pin p (List.mem_append_left _ z)) (h p),I.hok,I.len⟩
theorem nodup_ix {N:List Str} (hN:N.Nodup) {i j:Nat} {x:Str} (a:N[i]?=some x) (b:N[j]?=some x):i=j:=by
 obtain ⟨h1,e1⟩:=List.getElem?_eq_some_iff.mp a
 obtain ⟨h2,e2⟩:=List.getElem?_eq_some_iff.mp b
 exact (List.getElem_inj hN).mp (e1.trans e2.symm)
theorem store_ok2 {M:Model} {A:Around} {E:Value→Shared→Prop} {i:Nat} {x:Str} {v:V} {u:Value} {Q:Unit→Shared→Prop} (I:Inv X pins σ H s) (hN:X.N.Nodup) (hi:X.N[i]?=some x) (hx:Loc X.env.scope x) (r:RelV v u)
  (h:∀ s',Inv X pins (σ.set i (some v)) H s'→(∃ a,Heap.SameBut a s.heap s'.heap∧(a=X.env.locals∨X.env.cells.lookup x=some a))→Q () s') (hf:X.fn x=true∨X.env.scope.names.lookup x=some .local:=by first | exact .inl rfl | exact .inr rfl | assumption):wpAny M A (storeName X.env x u) Q E s:=by
 obtain ⟨m,hn,hl⟩:=id I.loc
 have hcls:(X.env.scope.kind == .class || (X.env.scope.kind == .module && X.env.locals != X.env.globals))=false:=by rw [I.ok.kind]; rfl
 have hiσ:i < σ.length:=by rw [I.len]; exact (List.getElem?_eq_some_iff.mp hi).1
 have cne:=I.cne
 have tracked:∀ {a:Addr} {h':Heap},(∃ o,s.heap.get? a=some o∧H a=none)→Heap.SameBut a s.heap h'→HOk X.prog X.w H h':=fun {a h'} ha hs b ob e=>by
  obtain ⟨_,_,hfree⟩:=ha
  refine (I.hok b ob e).stay (fun c w' hc q=>(hs.2 c ?_).trans q) (fun _ q=>q) (fun _ _ q=>q) fun _ _ _ _ q=>q
  rintro rfl
  rcases hc with rfl | hc
  ·
   rw [hfree] at e; cases e
  ·
   rw [hfree] at hc; cases hc
 rcases hx with hk | hk
 ·
  refine wpAny_storeName_local hk hn (fun h' hn' hs=>?_) hcls
  obtain ⟨oL,_,_,hoL,_⟩:=id hn
  refine h _ ⟨I.ok,I.os,I.bare,⟨fun b o e n hb hx=>?_,fun b o e n hb hx=>?_,I.base.free,fun b o e hx=>?_,I.base.tups,I.base.frzs,I.base.tbls⟩,⟨_,hn',fun j y v' e1 e2 e3=>?_⟩,fun y c e=>?_,I.free,I.freeC,fun p hp=>?_,tracked ⟨oL,hoL,I.free⟩ hs,by simpa using I.len⟩ ⟨_,hs,.inl rfl⟩
  ·
   exact (hs.2 b (Nat.ne_of_lt (Nat.lt_of_lt_of_le (Heap.lt_size e) I.ok.above))).trans (I.base.keep b o e n hb hx)
  ·
   obtain ⟨sl,e1⟩:=I.base.slot b o e n hb hx
   exact ⟨sl,(hs.2 b (Nat.ne_of_lt (Nat.lt_of_lt_of_le (Heap.lt_size e) I.ok.above))).trans e1⟩
  ·
   obtain ⟨o',e1⟩:=I.base.there b o e hx
   exact ⟨o',(hs.2 b (Nat.ne_of_lt (Nat.lt_of_lt_of_le (Heap.lt_size e) I.ok.above))).trans e1⟩
  ·
   by_cases hj:j=i
   ·
    subst hj
    rw [hi] at e1; cases e1
    rw [List.getElem?_set_self hiσ] at e2
    cases e2
    exact ⟨u,r,.inl ⟨hk,by simp⟩⟩
   ·
    rw [List.getElem?_set_ne (Ne.symm hj)] at e2
    obtain ⟨u',r',q⟩:=hl j y v' e1 e2 e3
    refine ⟨u',r',?_⟩
    rcases q with ⟨k,e⟩ | ⟨k,c,e,z⟩
    ·
     refine .inl ⟨k,?_⟩
     have:y≠x:=fun e=>hj (nodup_ix hN e1 (e ▸ hi))
     simp [this,e]
    ·
     exact .inr ⟨k,c,e,z.sameBut hs (cne y c e)⟩
  ·
   obtain ⟨w',z⟩:=I.cell y c e
   exact ⟨w',z.sameBut hs (cne y c e)⟩
  ·
   obtain ⟨e,n,ne,nf,d⟩:=I.pin p hp
   exact ⟨(hs.2 p.1 ne).trans e,n,ne,nf,d⟩
 ·
  have hfn:X.fn x=true:=by
   rcases hf with z | z
   ·
    exact z
   ·
    rw [z] at hk; cases hk
  obtain ⟨c,hc⟩:=I.ok.has x (.inl hk)
  obtain ⟨w',z⟩:=I.cell x c hc
  refine wpAny_storeName_cell I.ok.kind hk hc z (fun h' hc' hs=>?_)
  obtain ⟨oc,hoc,hocd⟩:=id z
  refine h { s with heap:=h' } ⟨I.ok,I.os,I.bare,⟨fun b o e n hb hx=>?_,fun b o e n hb hx=>?_,I.base.free,fun b o e hx=>?_,I.base.tups,I.base.frzs,I.base.tbls⟩,⟨m,hn.sameBut hs (Ne.symm (cne x c hc)),fun j y v' e1 e2 e3=>?_⟩,fun y c' e=>?_,I.free,I.freeC,fun p hp=>?_,tracked ⟨oc,hoc,(I.freeC x c hc).resolve_right fun z=>by rw [hfn] at z; exact absurd z.1 (by decide)⟩ hs,by simpa using I.len⟩ ⟨c,hs,.inr hc⟩
  ·
   exact (hs.2 b (Nat.ne_of_lt (Nat.lt_of_lt_of_le (Heap.lt_size e) (I.ok.cab x c hfn hc)))).trans (I.base.keep b o e n hb hx)
  ·
   obtain ⟨sl,e1⟩:=I.base.slot b o e n hb hx
   exact ⟨sl,(hs.2 b (Nat.ne_of_lt (Nat.lt_of_lt_of_le (Heap.lt_size e) (I.ok.cab x c hfn hc)))).trans e1⟩
  ·
   obtain ⟨o',e1⟩:=I.base.there b o e hx
   exact ⟨o',(hs.2 b (Nat.ne_of_lt (Nat.lt_of_lt_of_le (Heap.lt_size e) (I.ok.cab x c hfn hc)))).trans e1⟩
  ·
   by_cases hj:j=i
   ·
    subst hj
    rw [hi] at e1; cases e1
    rw [List.getElem?_set_self hiσ] at e2
    cases e2
    exact ⟨u,r,.inr ⟨.inl hk,c,hc,hc'⟩⟩
   ·
    rw [List.getElem?_set_ne (Ne.symm hj)] at e2
    obtain ⟨u',r',q⟩:=hl j y v' e1 e2 e3
    refine ⟨u',r',?_⟩
    rcases q with q | ⟨k,c',e,z'⟩
    ·
     exact .inl q
    ·
     refine .inr ⟨k,c',e,z'.sameBut hs ?_⟩
     rintro rfl
     exact hj (nodup_ix hN e1 (I.ok.inj _ _ _ e hc ▸ hi))
  ·
   by_cases hcc:c'=c
   ·
    subst hcc; exact ⟨_,hc'⟩
   ·
    obtain ⟨w2,z2⟩:=I.cell y c' e
    exact ⟨w2,z2.sameBut hs hcc⟩
  ·
   obtain ⟨e,n,ne,nf,d⟩:=I.pin p hp
   refine ⟨(hs.2 p.1 ?_).trans e,n,ne,nf,d⟩
   intro q
   rw [q,hoc] at e
   have q':oc=p.2:=Option.some.inj e
   exact d w' (by rw [← q']; exact hocd)
theorem store_ok {M:Model} {A:Around} {E:Value→Shared→Prop} {i:Nat} {x:Str} {v:V} {u:Value} {Q:Unit→Shared→Prop} (I:Inv X pins σ H s) (hN:X.N.Nodup) (hi:X.N[i]?=some x) (hx:Loc X.env.scope x) (r:RelV v u)
  (h:∀ s',Inv X pins (σ.set i (some v)) H s'→Q () s') (hf:X.fn x=true∨X.env.scope.names.lookup x=some .local:=by first | exact .inl rfl | exact .inr rfl | assumption):wpAny M A (storeName X.env x u) Q E s :=
 store_ok2 I hN hi hx r (fun s' I' _=>h s' I') hf
theorem Inv.call' {s':Shared} {ch:List Addr} (I:Inv X pins σ H s) (ho:s'.os=s.os) (u:Un (frs X.stack) ch H H' s.heap s'.heap) (hok:HOk X.prog X.w H' s'.heap) (hg:AllBare s'.gens)
  (hch:∀ b∈ch,(b∈X.ex∨X.s₀.heap.objs.size≤b)∧b≠X.env.locals∧(∀ x c,X.env.cells.lookup x=some c→c≠b)∧∀ p∈X.pn++pins,p.1≠b):Inv X pins σ H' s':=by
 obtain ⟨h',g',d',t',o'⟩:=s'
 have e:o'=s.os:=ho
 subst e
 exact I.call (g':=g') (t':=t') (d':=d') u hok hg hch
end
abbrev XK:=Value→Option Addr→Hp→Prop
abbrev St:=List (Option V)
abbrev VK:=V→Hp→Prop
abbrev TE:=St→Hp→VK→Prop
abbrev TT:=St→Hp→(Bool→Hp→Prop)→Prop
abbrev TA:=St→Hp→(List V→Hp→Prop)→Prop
structure Ends where
 nx:St→Hp→Prop
 rt:VK
 bk:St→Hp→Prop:=fun _ _=>False
 ct:St→Hp→Prop:=fun _ _=>False
abbrev TS:=Ends→St→Hp→Prop
def EP (X:Cx) (pins:List (Addr×Obj)) (σ:St) (Q:VK) (u:Value) (s':Shared):Prop:=∃ v H',Inv X pins σ H' s'∧RelV v u∧Q v H'
def TP (X:Cx) (pins:List (Addr×Obj)) (σ:St) (Q:Bool→Hp→Prop) (b:Bool) (s':Shared):Prop:=∃ H',Inv X pins σ H' s'∧Q b H'
def AP (X:Cx) (pins:List (Addr×Obj)) (σ:St) (Q:List V→Hp→Prop) (us:List Value) (s':Shared):Prop:=∃ vs H',Inv X pins σ H' s'∧Vals vs us∧Q vs H'
def SP (X:Cx) (pins:List (Addr×Obj)) (D:Ends) (f:Flow) (s':Shared):Prop :=
 match f with
 | .next=>∃ σ' H',Inv X pins σ' H' s'∧D.nx σ' H'
 | .brk=>∃ σ' H',Inv X pins σ' H' s'∧D.bk σ' H'
 | .cont=>∃ σ' H',Inv X pins σ' H' s'∧D.ct σ' H'
 | .ret u=>∃ v σ' H',Inv X pins σ' H' s'∧RelV v u∧D.rt v H'
def PE (X:Cx) (e:Expr) (t:TE):Prop :=
 ∀ (pins:List (Addr×Obj)) (s:Shared) (σ:St) (H:Hp) (Q:VK),Inv X pins σ H s→t σ H Q→wpAny (model X.prog X.w) X.A (eval e X.env) (EP X pins σ Q) X.xe s
def PT (X:Cx) (e:Expr) (t:TT):Prop :=
 ∀ (pins:List (Addr×Obj)) (s:Shared) (σ:St) (H:Hp) (Q:Bool→Hp→Prop),Inv X pins σ H s→t σ H Q→wpAny (model X.prog X.w) X.A (isTrue e X.env (eval e X.env)) (TP X pins σ Q) X.xe s
def PW (X:Cx) (e:Expr) (t:TT):Prop :=
 ∀ (whole:Sem Value) (pins:List (Addr×Obj)) (s:Shared) (σ:St) (H:Hp) (Q:Bool→Hp→Prop),Inv X pins σ H s→t σ H Q→wpAny (model X.prog X.w) X.A (isTrue e X.env whole) (TP X pins σ Q) X.xe s
theorem PW.pt {X:Cx} {e:Expr} {t:TT} (h:PW X e t):PT X e t:=h _
def PA (X:Cx) (es:List Expr) (t:TA):Prop :=
 ∀ (pos:Pos) (pins:List (Addr×Obj)) (s:Shared) (σ:St) (H:Hp) (Q:List V→Hp→Prop),Inv X pins σ H s→t σ H Q→wpAny (model X.prog X.w) X.A (spliced (backTo pos (starEach es X.env))) (AP X pins σ Q) X.xe s
def PS (X:Cx) (st:Stmt) (t:TS):Prop :=
 ∀ (pins:List (Addr×Obj)) (s:Shared) (σ:St) (H:Hp) (D:Ends),Inv X pins σ H s→t D σ H→wpAny (model X.prog X.w) X.A (exec st X.env) (SP X pins D) X.xe s
def PSs (X:Cx) (st:List Stmt) (t:TS):Prop :=
 ∀ (pins:List (Addr×Obj)) (s:Shared) (σ:St) (H:Hp) (D:Ends),Inv X pins σ H s→t D σ H→wpAny (model X.prog X.w) X.A (execs st X.env) (SP X pins D) X.xe s
theorem thn {α:Type} {t:Sem α} {Q Q':α→Shared→Prop} {M:Model} {A:Around} {E:Value→Shared→Prop} {s:Shared} (h:wpAny M A t Q E s) (hQ:∀ a s,Q a s→Q' a s):wpAny M A t Q' E s:=wpAny_mono h hQ fun _ _ x=>x
end L2
namespace L2
open PySem PySem.Spec PyProof.Rows
section
variable {X:Cx}
def tVar (i:Nat):TE:=fun σ H Q=>∃ v,σ[i]?=some (some v)∧Q v H
def tC (v:V):TE:=fun _ H Q=>Q v H
theorem pe_var {i:Nat} {x:Str} {pos:Pos} (hN:X.N[i]?=some x) (hv:Vis X.env.scope x) (hd:(x == ("__debug__" : Str))=false:=by decide) (hcd:(x == ("__classdict__" : Str))=false:=by decide):PE X (.Name x pos) (tVar i):=by
 intro pins s σ H Q I h
 obtain ⟨v,e,h⟩:=h
 obtain ⟨m,hn,hl⟩:=I.loc
 obtain ⟨u,r,l⟩:=hl i x v hN e hv
 have fin:EP X pins σ Q u s:=⟨v,H,I,r,h⟩
 rcases l with ⟨hk,hm⟩ | ⟨hk,c,hc,hcell⟩
 ·
  exact wpAny_Name (wpAny_loadName_local I.ok.kind hk hn hm fin) hd
 ·
  rcases hk with hk | hk
  ·
   exact wpAny_Name (wpAny_loadName_cell I.ok.kind hk hc hcell fin) hd
  ·
   exact wpAny_Name (wpAny_loadName_free I.ok.kind hk hc hcell fin hcd) hd
theorem pe_int {i j pos}:PE X (.Constant (.int i) j pos) (tC (.int i)):=fun _ _ _ H _ I h=>wpAny_Constant_int ⟨.int i,H,I.tok _,⟨_,rfl⟩,h⟩
theorem pe_bl {b j pos}:PE X (.Constant (.bool b) j pos) (tC (.bl b)):=fun _ _ _ H _ I h=>Constant_bool ⟨.bl b,H,I,rfl,h⟩
theorem pe_non {j pos}:PE X (.Constant .none j pos) (tC .non):=fun _ _ _ H _ I h=>Constant_none ⟨.non,H,I,rfl,h⟩
theorem pe_str {x j pos}:PE X (.Constant (.str x) j pos) (tC (.str x)):=fun _ _ _ H _ I h=>Calls.Constant_str ⟨.str x,H,I.tok _,⟨_,rfl⟩,h⟩
def Gl (X:Cx) (x:Str):Prop:=X.env.kindOf x=some .globalImplicit
theorem ld_glob {E:Value→Shared→Prop} {pins:List (Addr×Obj)} {s:Shared} {σ:St} {H:Hp} {x:Str} {u:Value} {pos:Pos} {Q:Value→Shared→Prop} (I:Inv X pins σ H s) (hg:Gl X x) (hm:X.mg x=some u) (h:Q u s)
  (hd:(x == ("__debug__" : Str))=false:=by decide):wpAny (model X.prog X.w) X.A (eval (.Name x pos) X.env) Q E s :=
 Calls.Name_function_global I.ok.kind hg (Calls.loadGlobal_global (by rw [I.ok.glob]; exact I.mod.glob.keeps I.bk) hm h) hd
theorem ld_blt {E:Value→Shared→Prop} {pins:List (Addr×Obj)} {s:Shared} {σ:St} {H:Hp} {x:Str} {u:Value} {pos:Pos} {Q:Value→Shared→Prop} (I:Inv X pins σ H s) (hg:Gl X x) (hm:X.mg x=none) (hv:bootBuiltins x=some u) (h:Q u s)
  (hn:x≠"__name__":=by decide) (hd:(x == ("__debug__" : Str))=false:=by decide):wpAny (model X.prog X.w) X.A (eval (.Name x pos) X.env) Q E s:=by
 obtain ⟨mb,h1,h2⟩:=I.mod.blt
 exact Calls.Name_function_global I.ok.kind hg (Calls.loadGlobal_builtin (by rw [I.ok.glob]; exact I.mod.glob.keeps I.bk) hm (by rw [I.ok.blt]; exact h1.keeps I.bk) ((h2 x hn).trans hv) h) hd
theorem pe_glob {x:Str} {v:V} {u:Value} {pos:Pos} (hg:Gl X x) (hm:X.mg x=some u) (r:RelV v u) (hd:(x == ("__debug__" : Str))=false:=by decide):PE X (.Name x pos) (tC v) :=
 fun _ _ _ H _ I h=>ld_glob I hg hm ⟨v,H,I,r,h⟩ hd
theorem pe_bltn {x:Str} {v:V} {u:Value} {pos:Pos} (hg:Gl X x) (hm:X.mg x=none) (hv:bootBuiltins x=some u) (r:RelV v u) (hn:x≠"__name__":=by decide) (hd:(x == ("__debug__" : Str))=false:=by decide):PE X (.Name x pos) (tC v) :=
 fun _ _ _ H _ I h=>ld_blt I hg hm hv ⟨v,H,I,r,h⟩ hn hd
variable {a b:Expr} {ta tb:TE} {pos:Pos}
def tB (t:TE):TT:=fun σ H Q=>t σ H fun x H1=>∃ c,x=.bl c∧Q c H1
variable {tA tB':TT} {rest:List Expr}
end
end L2
namespace L2
open PySem PySem.Spec PyProof.Rows
def SqL (K:PySem.W.Frag) (H:Hp) (a:Addr) (xs:List V):Prop :=
 Rd H a (.lst xs) ∨
  ∃ (o:Obj) (its:Array Value) (n:Nat),K.lookup a=some o∧o.cls=.type "list"∧o.dict=none∧o.data=.seq its n∧its.size≤sizeLine∧Vals xs its.toList
def SqT (K:PySem.W.Frag) (H:Hp) (a:Addr) (xs:List V):Prop :=
 Rd H a (.tup xs) ∨
  ∃ (o:Obj) (its:Array Value) (n:Nat),K.lookup a=some o∧o.cls=.type "tuple"∧o.data=.seq its n∧its.size≤sizeLine∧Vals xs its.toList
def absV:Value→Option V
 | .none=>some .non
 | .bool b=>some (.bl b)
 | .int i _=>some (.int i)
 | .str x _=>some (.str x)
 | .bytes b _=>some (.byt b)
 | .float b _=>some (.flt b)
 | .ref a=>some (.ref a)
 | .type n=>some (.ty n)
 | _=>none
theorem RelV.abs {x:V} {u:Value} (r:RelV x u):absV u=some x:=by
 cases x with
 | non=>cases r; rfl
 | bl _=>cases r; rfl
 | int _=>obtain ⟨t,rfl⟩:=r; rfl
 | str _=>obtain ⟨t,rfl⟩:=r; rfl
 | byt _=>obtain ⟨t,rfl⟩:=r; rfl
 | flt _=>obtain ⟨t,rfl⟩:=r; rfl
 | ref _=>cases r; rfl
 | ty _=>cases r; rfl
theorem RelV.inj {x y:V} {u:Value} (r:RelV x u) (q:RelV y u):x=y:=Option.some.inj (r.abs.symm.trans q.abs)
theorem Vals.inj:∀ {xs ys:List V} {us:List Value},Vals xs us→Vals ys us→xs=ys
 | _,_,_,.nil,.nil=>rfl
 | _,_,_,.cons r t,.cons r' t'=>by rw [r.inj r',Vals.inj t t']
section
variable {X:Cx} {pins:List (Addr×Obj)} {σ:St} {H:Hp} {s:Shared} {a:Addr} {xs ys:List V}
theorem SqL.of {K:PySem.W.Frag} (h:H a=some (.lst xs)):SqL K H a xs:=.inl (.inl h)
theorem SqT.of {K:PySem.W.Frag} (h:H a=some (.tup xs)):SqT K H a xs:=.inl (.inl h)
theorem Inv.list (I:Inv X pins σ H s) (h:SqL X.K H a xs):∃ its:List Value,Vals xs its∧PlainL s.heap a its.toArray∧xs.length≤sizeLine:=by
 rcases h with h | ⟨o,its,n,hk,hc,hd,hs,hz,r⟩
 ·
  obtain ⟨z,its,n,r,e⟩:=h.ok I.hok
  exact ⟨its,r,⟨_,n,e,rfl,rfl,rfl⟩,z⟩
 ·
  refine ⟨its.toList,r,⟨o,n,I.kIn a o hk,hc,hd,by simpa using hs⟩,?_⟩
  have e:=r.length
  simp only [Array.length_toList] at e
  omega
theorem Inv.tuple (I:Inv X pins σ H s) (h:SqT X.K H a xs):∃ its:List Value,Vals xs its∧IsTup s.heap a its.toArray∧xs.length≤sizeLine:=by
 rcases h with h | ⟨o,its,n,hk,hc,hs,hz,r⟩
 ·
  obtain ⟨z,its,r,p⟩:=h.ok I.hok
  exact ⟨its,r,p,z⟩
 ·
  refine ⟨its.toList,r,⟨o,I.kIn a o hk,hc,n,by simpa using hs⟩,?_⟩
  have e:=r.length
  simp only [Array.length_toList] at e
  omega
theorem Inv.list_inj (I:Inv X pins σ H s) (h:SqL X.K H a xs) (h':SqL X.K H a ys):xs=ys:=by
 obtain ⟨its,r,⟨o,n,e,_,_,d⟩,_⟩:=I.list h
 obtain ⟨its',r',⟨o',n',e',_,_,d'⟩,_⟩:=I.list h'
 rw [e] at e'; cases e'
 rw [d] at d'
 injection d' with d1 _
 have:its=its':=by simpa using congrArg Array.toList d1
 subst this
 exact r.inj r'
theorem Inv.tuple_inj (I:Inv X pins σ H s) (h:SqT X.K H a xs) (h':SqT X.K H a ys):xs=ys:=by
 obtain ⟨its,r,⟨o,e,_,n,d⟩,_⟩:=I.tuple h
 obtain ⟨its',r',⟨o',e',_,n',d'⟩,_⟩:=I.tuple h'
 rw [e] at e'; cases e'
 rw [d] at d'
 injection d' with d1 _
 have:its=its':=by simpa using congrArg Array.toList d1
 subst this
 exact r.inj r'
end
abbrev Cx.wish (X:Cx) (E:Value→Shared→Prop):Cx:={ X with xe:=E }
abbrev Cx.nox (X:Cx):Cx:=X.wish fun _ _=>False
theorem Cx.Ok.wish {X:Cx} (ok:X.Ok) (E:Value→Shared→Prop):(X.wish E).Ok :=
 ⟨ok.mod,ok.kind,ok.glob,ok.blt,ok.above,ok.inj,ok.has,ok.cab,ok.hd,ok.frames,ok.stk,ok.exf,ok.bs,ok.bsz,ok.noex,ok.exfs,ok.funs,ok.frf,ok.tbs⟩
theorem Cx.Ok.unwish {X:Cx} {E:Value→Shared→Prop} (ok:(X.wish E).Ok):X.Ok :=
 ⟨ok.mod,ok.kind,ok.glob,ok.blt,ok.above,ok.inj,ok.has,ok.cab,ok.hd,ok.frames,ok.stk,ok.exf,ok.bs,ok.bsz,ok.noex,ok.exfs,ok.funs,ok.frf,ok.tbs⟩
section
variable {X:Cx} {pins:List (Addr×Obj)} {σ:St} {H:Hp} {s:Shared} {E:Value→Shared→Prop}
theorem Inv.wish (I:Inv X pins σ H s) (E:Value→Shared→Prop):Inv (X.wish E) pins σ H s:=⟨I.ok.wish E,I.os,I.bare,I.base,I.loc,I.cell,I.free,I.freeC,I.pin,I.hok,I.len⟩
theorem Inv.unwish (I:Inv (X.wish E) pins σ H s):Inv X pins σ H s:=⟨I.ok.unwish,I.os,I.bare,I.base,I.loc,I.cell,I.free,I.freeC,I.pin,I.hok,I.len⟩
theorem SP.unwish {D:Ends} {f:Flow} {s':Shared} (h:SP (X.wish E) pins D f s'):SP X pins D f s':=by
 cases f with
 | next=>obtain ⟨σ',H',I,q⟩:=h; exact ⟨σ',H',I.unwish,q⟩
 | brk=>obtain ⟨σ',H',I,q⟩:=h; exact ⟨σ',H',I.unwish,q⟩
 | cont=>obtain ⟨σ',H',I,q⟩:=h; exact ⟨σ',H',I.unwish,q⟩
 | ret u=>obtain ⟨v,σ',H',I,r,q⟩:=h; exact ⟨v,σ',H',I.unwish,r,q⟩
theorem PE.nox {e:Expr} {t:TE} (h:PE X.nox e t):PE X e t:=fun pins s σ H Q I hw =>
 wpAny_mono (h pins s σ H Q (I.wish _) hw) (fun _ _ ⟨v,H',I',r,q⟩=>⟨v,H',I'.unwish,r,q⟩) fun _ _ z=>False.elim z
theorem PT.nox {e:Expr} {t:TT} (h:PT X.nox e t):PT X e t:=fun pins s σ H Q I hw =>
 wpAny_mono (h pins s σ H Q (I.wish _) hw) (fun _ _ ⟨H',I',q⟩=>⟨H',I'.unwish,q⟩) fun _ _ z=>False.elim z
theorem PSs.nox {st:List Stmt} {t:TS} (h:PSs X.nox st t):PSs X st t:=fun pins s σ H D I hw =>
 wpAny_mono (h pins s σ H D (I.wish _) hw) (fun _ _ q=>q.unwish) fun _ _ z=>False.elim z
end
section
variable {X:Cx} {st:Stmt} {rest:List Stmt} {t u:TS} {e:Expr} {te:TE} {pos:Pos}
def tSeq (t u:TS):TS:=fun D σ H=>t { D with nx:=u D } σ H
theorem pss_cons (h1:PS X st t) (h2:PSs X rest u):PSs X (st::rest) (tSeq t u):=by
 intro pins s σ H D I h
 refine wpAny_execs_cons (thn (h1 pins s σ H { D with nx:=u D } I h) fun f s1 q=>?_)
 cases f with
 | next =>
  obtain ⟨σ',H',I',q⟩:=q
  exact h2 pins s1 σ' H' D I' q
 | ret v=>exact q
 | brk=>exact q
 | cont=>exact q
theorem pss_one (h1:PS X st t):PSs X [st] t:=by
 intro pins s σ H D I h
 refine wpAny_execs_cons (thn (h1 pins s σ H D I h) fun f s1 q=>?_)
 cases f with
 | next=>exact wpAny_execs_nil q
 | ret v=>exact q
 | brk=>exact q
 | cont=>exact q
theorem Inv.quiet {pins:List (Addr×Obj)} {σ:St} {H:Hp} {s:Shared} (I:Inv X pins σ H s):interactive X.env=false:=by simp [interactive,I.ok.kind]
def tDrop (te:TE):TS:=fun D σ H=>te σ H fun _ H1=>D.nx σ H1
theorem ps_expr (he:PE X e te) (hs:swapsWith e none pos.line X.env=pure false:=by rfl):PS X (.Expr e pos) (tDrop te):=by
 intro pins s σ H D I h
 exact wpAny_Expr_any (thn (he pins s σ H _ I h) fun v s1 ⟨x,H1,I1,r1,q1⟩=>⟨σ,H1,I1,q1⟩) I.quiet hs
end
abbrev TG:=V→St→Hp→(St→Hp→Prop)→Prop
abbrev TGs:=List V→St→Hp→(St→Hp→Prop)→Prop
def PG (X:Cx) (target:Expr) (t:TG):Prop :=
 ∀ (pins:List (Addr×Obj)) (s:Shared) (σ:St) (H:Hp) (v:V) (u:Value) (Q:St→Hp→Prop),Inv X pins σ H s→RelV v u→t v σ H Q →
  wpAny (model X.prog X.w) X.A (assign target X.env u) (fun _ s'=>∃ σ' H',Inv X pins σ' H' s'∧Q σ' H') X.xe s
def PGs (X:Cx) (ts:List Expr) (t:TGs):Prop :=
 ∀ (pins:List (Addr×Obj)) (s:Shared) (σ:St) (H:Hp) (vs:List V) (us:List Value) (Q:St→Hp→Prop),Inv X pins σ H s→Vals vs us→t vs σ H Q →
  wpAny (model X.prog X.w) X.A (assignInOrder ((assignEach ts X.env).map (·.2)) us) (fun _ s'=>∃ σ' H',Inv X pins σ' H' s'∧Q σ' H') X.xe s
abbrev TSet:=V→V→V→Hp→(Hp→Prop)→Prop
def PSet (X:Cx) (t:TSet):Prop :=
 ∀ (pins:List (Addr×Obj)) (s:Shared) (σ:St) (H:Hp) (o i v:V) (ov iv u:Value) (Q:Hp→Prop),Inv X pins σ H s→RelV o ov→RelV i iv→RelV v u→t o i v H Q →
  wpAny (model X.prog X.w) X.A (setItem ov iv u) (fun _ s'=>∃ H',Inv X pins σ H' s'∧Q H') X.xe s
section
variable {X:Cx} {pos:Pos}
def gName (i:Nat):TG:=fun v σ H Q=>Q (σ.set i (some v)) H
theorem pg_name {i:Nat} {x:Str} (hN:X.N.Nodup) (hi:X.N[i]?=some x) (hx:Loc X.env.scope x) (hf:X.fn x=true∨X.env.scope.names.lookup x=some .local:=by first | exact .inl rfl | exact .inr rfl | assumption):PG X (.Name x pos) (gName i):=by
 intro pins s σ H v u Q I r h
 exact wpAny_assign_Name (store_ok I hN hi hx r (fun s' I'=>⟨_,H,I',h⟩) hf)
def gNil:TGs:=fun vs σ H Q=>vs=[]∧Q σ H
def gCons (t:TG) (u:TGs):TGs:=fun vs σ H Q=>∃ v r,vs=v::r∧t v σ H fun σ' H'=>u r σ' H' Q
theorem pgs_nil:PGs X [] gNil:=by
 intro pins s σ H vs us Q I r h
 obtain ⟨e,h⟩:=h
 subst e
 cases r
 exact assignInOrder_nil ⟨σ,H,I,h⟩
theorem pgs_cons {e:Expr} {es:List Expr} {t:TG} {u:TGs} (h1:PG X e t) (h2:PGs X es u)
  (hs:(assignEach (e::es) X.env).map (·.2)=assign e X.env::(assignEach es X.env).map (·.2):=by rfl):PGs X (e::es) (gCons t u):=by
 intro pins s σ H vs us Q I r h
 obtain ⟨v,vr,e1,h⟩:=h
 subst e1
 cases r with
 | cons r rr =>
  rw [hs]
  refine assignInOrder_cons (thn (h1 pins s σ H _ _ _ I r h) fun _ s1 ⟨σ1,H1,I1,q1⟩=>?_)
  exact h2 pins s1 σ1 H1 _ _ Q I1 rr q1
def gTup (K:PySem.W.Frag) (n:Nat) (t:TGs):TG:=fun v σ H Q=>∃ a xs,v=.ref a∧SqT K H a xs∧xs.length=n∧t xs σ H Q
theorem pg_tup {es:List Expr} {k:Nat} {t:TGs} {n:Nat} (hc:X.calm=true) (h:PGs X es t)
  (hn:(assignEach es X.env).length=n:=by rfl) (hst:(assignEach es X.env).findIdx? (·.1)=none:=by rfl):PG X (.Tuple es k pos) (gTup X.K n t):=by
 intro pins s σ H v u Q I r hw
 obtain ⟨a,xs,e1,hq,hl,hw⟩:=hw
 subst e1
 cases r
 obtain ⟨its,rv,ht,hz⟩:=I.tuple hq
 refine assign_Tuple_tuple (I.ok.hd hc) ht (by simp [hn,← hl,rv.length]) hst fun h' hx=>?_
 have I1:Inv X pins σ H { s with heap:=h' }:=I.kept (t':=s.toks) fun b o e=>hx b o (Nat.ne_of_lt (Heap.lt_size e)) e
 exact h pins _ σ H xs _ Q I1 (by simpa using rv) hw
def gSub (to ti:TE) (t:TSet):TG:=fun v σ H Q=>to σ H fun o H1=>ti σ H1 fun i H2=>t o i v H2 fun H3=>Q σ H3
theorem pg_sub {o i:Expr} {to ti:TE} {t:TSet} (ho:PE X o to) (hi:PE X i ti) (hs:PSet X t)
  (ha:∀ v,assign (.Subscript o i pos) X.env v=(do
   let ov ← holding [v] (eval o X.env)
   let iv ← holding [v,ov] (eval i X.env)
   standAt pos
   holding [v,ov,iv] (setItem ov iv v)
   release [v,ov,iv] []):=by intro _; rfl):PG X (.Subscript o i pos) (gSub to ti t):=by
 intro pins s σ H v u Q I r h
 rw [ha]
 refine wpAny_bind (wpAny_holding (thn (ho pins s σ H _ I h) fun ov s1 ⟨x,H1,I1,r1,q1⟩=>?_))
 refine wpAny_bind (wpAny_holding (thn (hi pins s1 σ H1 _ I1 q1) fun iv s2 ⟨y,H2,I2,r2,q2⟩=>?_))
 refine wpAny_bind (wpAny_standAt (wpAny_bind (wpAny_holding (thn (hs pins s2 σ H2 x y v ov iv u _ I2 r1 r2 r q2) fun _ s3 ⟨H3,I3,q3⟩=>?_))))
 exact wpAny_release ⟨σ,H3,I3,q3⟩
def tAsg (te:TE) (g:TG):TS:=fun D σ H=>te σ H fun x H1=>g x σ H1 D.nx
theorem ps_asg {tg e:Expr} {te:TE} {g:TG} (he:PE X e te) (hg:PG X tg g) (hs:swapsWithSole [tg] e pos.line X.env=pure false:=by rfl) (hw:swappedStores [tg] e X.env=pure none:=by rfl)
  (h1:(assignEach [tg] X.env).map (·.2)=[assign tg X.env]:=by rfl):PS X (.Assign [tg] e pos) (tAsg te g):=by
 intro pins s σ H D I h
 refine wpAny_Assign_stores (thn (he pins s σ H _ I h) fun v s1 ⟨x,H1,I1,r1,q1⟩=>?_) hs hw
 rw [h1]
 exact thn (hg pins s1 σ H1 x v _ I1 r1 q1) fun _ s2 q=>q
def tPar (i j:Nat) (ta:TA):TS:=fun D σ H=>ta σ H fun vs H1=>∃ v w,vs=[v,w]∧D.nx ((σ.set i (some v)).set j (some w)) H1
theorem ps_par {i j:Nat} {x y:Str} {a b:Expr} {ta:TA} {px py pt:Pos} {kt k2 pt2} (hc:X.calm=true) (hN:X.N.Nodup) (hi:X.N[i]?=some x) (hj:X.N[j]?=some y) (hij:i≠j)
  (hx:X.env.scope.names.lookup x=some .local) (hy:X.env.scope.names.lookup y=some .local) (ha:PA X [a,b] ta)
  (hw:swappedStores [.Tuple [.Name x px,.Name y py] kt pt] (.Tuple [a,b] k2 pt2) X.env=pure (some [x,y]))
  (hs:swapsWithSole [.Tuple [.Name x px,.Name y py] kt pt] (.Tuple [a,b] k2 pt2) pos.line X.env=pure false:=by rfl) :
  PS X (.Assign [.Tuple [.Name x px,.Name y py] kt pt] (.Tuple [a,b] k2 pt2) pos) (tPar i j ta):=by
 intro pins s σ H D I h
 rw [exec_Assign_arm]
 refine wpAny_bind (wpAny_standAt ?_)
 rw [hs]
 refine wpAny_bind (wpAny_pure ?_)
 rw [if_neg (by decide)]
 refine wpAny_bind (Tuple_ (thn (ha _ pins s σ H _ I h) fun us s1 ⟨vs,H1,I1,r1,q1⟩=>?_))
 obtain ⟨v,w,e1,q1⟩:=q1
 subst e1
 obtain ⟨u1,u2,rfl,rv,rw'⟩:∃ u1 u2,us=[u1,u2]∧RelV v u1∧RelV w u2:=by
  cases r1 with
  | cons p q =>
   cases q with
   | cons p' q' =>
    cases q'
    exact ⟨_,_,rfl,p,p'⟩
 refine wpAny_newObj_type ?_ (by show 2≤sizeLine; decide)
 have I2:Inv X pins σ H1 { s1 with heap:=s1.heap.push { cls:=.type "tuple",data:=.seq [u1,u2].toArray } }:=I1.kept (t':=s1.toks) fun b o e=>Heap.get?_push_of_some _ e
 rw [hw]
 refine wpAny_bind (wpAny_pure ?_)
 show wpAny (model X.prog X.w) X.A (do rule "assign.swapped-stores"; let items ← unpackItems (.ref s1.heap.objs.size) 2 none; assignInOrder [fun v=>bindName X.env y v,fun v=>bindName X.env x v] items.reverse; pure Flow.next) _ _ _
 refine wpAny_bind (wpAny_rule (wpAny_bind (unpackItems_tuple (items:=#[u1,u2]) (I.ok.hd hc) (IsTup.new s1.heap _) fun h' hx'=>?_)))
 have I3:=I2.kept (h':=h') (t':=s1.toks) fun b o e=>hx' b o (Nat.ne_of_lt (Heap.lt_size e)) e
 show wpAny _ _ (assignInOrder [fun v=>bindName X.env y v,fun v=>bindName X.env x v] [u2,u1] >>= fun _=>pure Flow.next) _ _ _
 refine wpAny_bind (assignInOrder_cons (wpAny_bindName (store_ok I3 hN hj (.inl hy) rw' (fun s2 I4=>?_) (.inr hy))))
 refine assignInOrder_cons (wpAny_bindName (store_ok I4 hN hi (.inl hx) rv (fun s3 I5=>assignInOrder_nil (wpAny_pure ?_)) (.inr hx)))
 rw [List.set_comm _ _ (Ne.symm hij)] at I5
 exact ⟨_,H1,I5,q1⟩
end
section
variable {X:Cx} {pos:Pos}
def tWhile (c:TT) (tb:TS):TS:=fun D σ H=>∃ W:Nat→St→Hp→Prop,(∃ m,W m σ H)∧∀ m σ H,W m σ H →
 c σ H fun b H1=>if b=true then ∃ N:St→Hp→Prop,(∀ σ' H',N σ' H'→∃ m',m' < m∧W m' σ' H')∧tb { D with nx:=N,ct:=N,bk:=D.nx } σ H1 else D.nx σ H1
theorem ps_while {c:Expr} {body:List Stmt} {tc:TT} {tb:TS} (hp:PassesOwn (model X.prog X.w) X.A X.env X.xe) (hc:PT X c tc) (hb:PSs X body tb):PS X (.While c body [] pos) (tWhile tc tb):=by
 intro pins s σ H D I h
 obtain ⟨W,⟨m0,w0⟩,turn⟩:=h
 refine wpAny_While (codeAny_whileLoop (fun n s'=>∃ σ' H',Inv X pins σ' H' s'∧W n σ' H') ?_ m0 ⟨σ,H,I,w0⟩)
 rintro n s1 ⟨σ1,H1,I1,w1⟩
 refine wpAny_passesOwn hp (thn (hc pins s1 σ1 H1 _ I1 (turn n σ1 H1 w1)) fun b s2 ⟨H2,I2,q2⟩=>?_)
 cases b with
 | true =>
  obtain ⟨N,hN,q2⟩:=q2
  rw [if_pos rfl]
  refine wpAny_passesOwn hp (thn (hb pins s2 σ1 H2 _ I2 q2) fun f s3 q3=>?_)
  cases f with
  | next =>
   obtain ⟨σ3,H3,I3,n3⟩:=q3
   obtain ⟨m',hm,w3⟩:=hN σ3 H3 n3
   exact ⟨m',hm,σ3,H3,I3,w3⟩
  | cont =>
   obtain ⟨σ3,H3,I3,n3⟩:=q3
   obtain ⟨m',hm,w3⟩:=hN σ3 H3 n3
   exact ⟨m',hm,σ3,H3,I3,w3⟩
  | brk=>exact q3
  | ret v=>exact q3
 | false =>
  rw [if_neg Bool.false_ne_true]
  exact wpAny_execs_nil ⟨σ1,H2,I2,q2⟩
end
structure It where
 go:Nat→Hp→Prop
 yld:Nat→Hp→V→Hp→Prop
 stop:Nat→Hp→Prop
def FpOk (X:Cx) (pins:List (Addr×Obj)) (H:Hp) (b:Addr):Prop :=
 H b=none∧b≠X.env.locals∧b∉X.fs∧(b∈X.ex∨X.s₀.heap.objs.size≤b)∧(∀ x c,X.env.cells.lookup x=some c→c≠b)∧∀ p∈X.pn++pins,p.1≠b
theorem Inv.fpOk {X:Cx} {pins:List (Addr×Obj)} {σ:St} {H H':Hp} {s:Shared} {b:Addr} (I:Inv X pins σ H s) (hb:s.heap.objs.size≤b) (hn:H' b=none):FpOk X pins H' b:=by
 refine ⟨hn,Nat.ne_of_gt (Nat.lt_of_lt_of_le I.lt hb),I.nofs hb,.inr (Nat.le_trans I.sz hb),fun x c e z=>?_,fun p hp z=>?_⟩
 ·
  obtain ⟨v,q⟩:=I.cell x c e
  exact absurd (Nat.lt_of_lt_of_le q.lt (by rw [z]; exact hb)) (Nat.lt_irrefl _)
 ·
  exact absurd (Nat.lt_of_lt_of_le (Heap.lt_size (I.pin p hp).1) (by rw [z]; exact hb)) (Nat.lt_irrefl _)
structure Turn (P:Program) (w:World) (K:PySem.W.Frag) (tg:Expr) (J:It) (fp:List Addr) (it:Addr) (tn:Nat→Heap→Prop):Prop where
 mem:it∈fp
 obj:∀ i h,tn i h→∀ b∈fp,∃ o,h.get? b=some o∧∀ v,o.data≠.cell v
 keep:∀ i h h',tn i h→(∀ b∈fp,∀ o,h.get? b=some o→h'.get? b=some o)→tn i h'
 item:∀ (X:Cx),X.prog=P→X.w=w→X.K=K→X.calm=true→∀ (i:Nat) (pins:List (Addr×Obj)) (s:Shared) (σ:St) (H:Hp) (E:Value→Shared→Prop),Inv X pins σ H s→(∀ b∈fp,FpOk X pins H b)→tn i s.heap→J.go i H →
  wpAny (model P w) X.A (pyNext (.ref it)) (fun r s1=>∃ u,r=some u ∧
   wpAny (model P w) X.A (letOwnedTupleGo tg (.ref it) u) (fun _ s2=>∃ x H',Inv X pins σ H' s2∧RelV x u∧J.yld i H x H'∧tn (i+1) s2.heap∧∀ b∈fp,H' b=none) E s1) E s
 done:∀ (X:Cx),X.prog=P→X.w=w→X.K=K→X.calm=true→∀ (i:Nat) (pins:List (Addr×Obj)) (s:Shared) (σ:St) (H:Hp) (E:Value→Shared→Prop),Inv X pins σ H s→(∀ b∈fp,FpOk X pins H b)→tn i s.heap→J.stop i H →
  wpAny (model P w) X.A (pyNext (.ref it)) (fun r s1=>r=none∧Inv X pins σ H s1) E s
 self:∀ (A:Around) (i:Nat) (s:Shared) (Q:Value→Shared→Prop) (E:Value→Shared→Prop),tn i s.heap→Q (.ref it) s→wpAny (model P w) A (pyIter (.ref it)) Q E s
abbrev TI:=St→Hp→(It→Hp→Prop)→Prop
def PIE (X:Cx) (pins:List (Addr×Obj)) (σ:St) (tg:Expr) (R:It→Hp→Prop) (itv:Value) (s2:Shared):Prop :=
 ∃ (it:Addr) (fp:List Addr) (tn:Nat→Heap→Prop) (J:It) (H':Hp),itv=.ref it∧Inv X pins σ H' s2∧Turn X.prog X.w X.K tg J fp it tn∧tn 0 s2.heap∧(∀ b∈fp,FpOk X pins H' b)∧R J H'
def PI (X:Cx) (tg iter:Expr) (wi:TI):Prop :=
 ∀ (pins:List (Addr×Obj)) (s:Shared) (σ:St) (H:Hp) (R:It→Hp→Prop),Inv X pins σ H s→wi σ H R →
  wpAny (model X.prog X.w) X.A (eval iter X.env) (fun v s1=>wpAny (model X.prog X.w) X.A (pyIter v) (PIE X pins σ tg R) X.xe s1) X.xe s
theorem go_of {M : Model} {A : Around} {E : Value → Shared → Prop} {s : Shared} {tg : Expr} {it : Addr} {u : Value} {o : Obj} {n : String} {vs : Array Value} {Q : Unit → Shared → Prop} (ho : s.heap.get? it = some o) (hc : o.cls = .type n) (hd : o.data = .fields vs)
    (hn : ["enumerate", "zip", "dict_itemiterator", "dict_reverseitemiterator", "odict_iterator", "itertools.zip_longest", "itertools.pairwise"].contains n = false) (hQ : Q () s) : wpAny M A (letOwnedTupleGo tg (.ref it) u) Q E s := by
  unfold letOwnedTupleGo
  cases tg <;> first
    | exact wpAny_pure hQ
    | (cases u <;> first
        | exact wpAny_pure hQ
        | (refine wpAny_bind (wpAny_load ho ?_)
           rw [hc, hd]
           show wpAny M A (if (["enumerate", "zip", "dict_itemiterator", "dict_reverseitemiterator", "odict_iterator", "itertools.zip_longest", "itertools.pairwise"].contains n && vs[0]? == some (rawInt _)) = true then _ else _) Q E s
           rw [if_neg (by intro h; rw [hn, Bool.false_and] at h; cases h)]
           exact wpAny_pure hQ))
def Itl (K:PySem.W.Frag) (a:Addr):It :=
 ⟨fun i H=>∃ xs x,SqL K H a xs∧xs[i]?=some x,fun i H x H'=>H'=H∧∀ xs,SqL K H a xs→xs[i]?=some x,fun i H=>∃ xs,SqL K H a xs∧xs.length≤i⟩
def Itt (K:PySem.W.Frag) (a:Addr):It :=
 ⟨fun i H=>∃ xs x,SqT K H a xs∧xs[i]?=some x,fun i H x H'=>H'=H∧∀ xs,SqT K H a xs→xs[i]?=some x,fun i H=>∃ xs,SqT K H a xs∧xs.length≤i⟩
def Itr (lo:Int) (n:Nat):It:=⟨fun i _=>i < n,fun i H x H'=>H'=H∧x=.int (lo+i),fun i _=>n≤i⟩
theorem turn_list {P:Program} {w:World} {K:PySem.W.Frag} {tg:Expr} (a it:Addr):Turn P w K tg (Itl K a) [it] it (fun i h=>h.IsListIter it a i) where
 mem:=by simp
 obj:=fun i h st b hb=>by
  have e:b=it:=by simpa using hb
  subst e
  obtain ⟨o,e,c,d⟩:=st
  exact ⟨o,e,fun v z=>by rw [d] at z; cases z⟩
 keep:=fun i h h' st k=>st.at fun o e=>k it (by simp) o e
 item:=by
  intro X hP hw hK hc i pins s σ H E I hf st hg
  subst hP hw hK
  obtain ⟨xs,x,hq,hx⟩:=hg
  obtain ⟨its,rv,p,hz⟩:=I.list hq
  obtain ⟨u,hu,ru⟩:=rv.get hx
  obtain ⟨f0,f1,f2,f3,f4,f5⟩:=hf it (by simp)
  refine wpAny_pyNext_list_item st p.isList (x:=u) (by simpa using hu) fun h' st' sb=>?_
  have I1:Inv X pins σ H { s with heap:=h' }:=I.turned (t':=s.toks) (fun b o hb e=>(sb.2 b hb).trans e) f0 f1 f3 f4 f5
  obtain ⟨o,e,c,d⟩:=id st'
  exact ⟨u,rfl,go_of (s:={ s with heap:=h' }) e c d (by decide) ⟨x,H,I1,ru,⟨rfl,fun ys hy=>by rw [I.list_inj hy hq]; exact hx⟩,st',fun b hb=>(hf b hb).1⟩⟩
 done:=by
  intro X hP hw hK hc i pins s σ H E I hf st hg
  subst hP hw hK
  obtain ⟨xs,hq,hx⟩:=hg
  obtain ⟨its,rv,p,hz⟩:=I.list hq
  obtain ⟨f0,f1,f2,f3,f4,f5⟩:=hf it (by simp)
  have hl:=rv.length
  exact wpAny_pyNext_list_end (I.ok.hd hc) st p.isList (by simp; omega) fun h' eb=>⟨rfl,I.turned (t':=s.toks) (fun b o hb e=>eb b o hb e) f0 f1 f3 f4 f5⟩
 self:=fun _ _ _ _ _ st h=>wpAny_pyIter_listiter st h
theorem turn_tuple {P:Program} {w:World} {K:PySem.W.Frag} {tg:Expr} (a it:Addr):Turn P w K tg (Itt K a) [it] it (fun i h=>h.IsTupleIter it a i) where
 mem:=by simp
 obj:=fun i h st b hb=>by
  have e:b=it:=by simpa using hb
  subst e
  obtain ⟨o,e,c,d⟩:=st
  exact ⟨o,e,fun v z=>by rw [d] at z; cases z⟩
 keep:=fun i h h' st k=>st.at fun o e=>k it (by simp) o e
 item:=by
  intro X hP hw hK hc i pins s σ H E I hf st hg
  subst hP hw hK
  obtain ⟨xs,x,hq,hx⟩:=hg
  obtain ⟨its,rv,p,hz⟩:=I.tuple hq
  obtain ⟨u,hu,ru⟩:=rv.get hx
  obtain ⟨f0,f1,f2,f3,f4,f5⟩:=hf it (by simp)
  refine wpAny_pyNext_tuple_item st (show s.heap.IsTuple a its.toArray from p) (x:=u) (by simpa using hu) fun h' st' sb=>?_
  have I1:Inv X pins σ H { s with heap:=h' }:=I.turned (t':=s.toks) (fun b o hb e=>(sb.2 b hb).trans e) f0 f1 f3 f4 f5
  obtain ⟨o,e,c,d⟩:=id st'
  exact ⟨u,rfl,go_of (s:={ s with heap:=h' }) e c d (by decide) ⟨x,H,I1,ru,⟨rfl,fun ys hy=>by rw [I.tuple_inj hy hq]; exact hx⟩,st',fun b hb=>(hf b hb).1⟩⟩
 done:=by
  intro X hP hw hK hc i pins s σ H E I hf st hg
  subst hP hw hK
  obtain ⟨xs,hq,hx⟩:=hg
  obtain ⟨its,rv,p,hz⟩:=I.tuple hq
  obtain ⟨f0,f1,f2,f3,f4,f5⟩:=hf it (by simp)
  have hl:=rv.length
  exact wpAny_pyNext_tuple_end (I.ok.hd hc) st (show s.heap.IsTuple a its.toArray from p) (by simp; omega) fun h' eb=>⟨rfl,I.turned (t':=s.toks) (fun b o hb e=>eb b o hb e) f0 f1 f3 f4 f5⟩
 self:=fun _ _ _ _ _ st h=>wpAny_pyIter_tupleiter st h
theorem turn_range {P:Program} {w:World} {K:PySem.W.Frag} {tg:Expr} (it:Addr) (lo:Int) (n:Nat):Turn P w K tg (Itr lo n) [it] it (fun i h=>IsRangeIter h it (lo+(i:Nat)*1) ((n:Int) - (i:Nat)) 1) where
 mem:=by simp
 obj:=fun i h st b hb=>by
  have e:b=it:=by simpa using hb
  subst e
  exact ⟨_,st,fun v z=>by
   have z':Data.fields _=Data.cell v:=z
   cases z'⟩
 keep:=fun i h h' st k=>k it (by simp) _ st
 item:=by
  intro X hP hw hK hc i pins s σ H E I hf st hg
  subst hP hw hK
  obtain ⟨f0,f1,f2,f3,f4,f5⟩:=hf it (by simp)
  have W:=Walks.range (prog:=X.prog) (w:=X.w) (I.ok.hd hc) it lo 1 n
  refine W.item i s _ _ hg st fun v h' tk hv st' kk=>?_
  obtain ⟨t,rfl⟩:=hv
  have I1:Inv X pins σ H { s with heap:=h',toks:=tk }:=I.turned (fun b o hb e=>kk b o (by simpa using hb) e) f0 f1 f3 f4 f5
  refine ⟨_,rfl,go_of (s:={ s with heap:=h',toks:=tk }) (n:="range_iterator") st' rfl rfl (by decide) ⟨.int (lo+i),H,I1,⟨t,?_⟩,⟨rfl,rfl⟩,st',fun b hb=>(hf b hb).1⟩⟩
  rw [Int.mul_one]
 done:=by
  intro X hP hw hK hc i pins s σ H E I hf st hg
  subst hP hw hK
  obtain ⟨f0,f1,f2,f3,f4,f5⟩:=hf it (by simp)
  exact wpAny_pyNext_range_end (I.ok.hd hc) st (by have:n≤i:=hg; omega) fun h' eb=>⟨rfl,I.turned (t':=s.toks) (fun b o hb e=>eb b o hb e) f0 f1 f3 f4 f5⟩
 self:=fun _ _ _ _ _ st h=>wpAny_pyIter_rangeiter st h
end L2
namespace L2
open PySem PySem.Spec PyProof.Rows
section
variable {X:Cx} {tg:Expr}
theorem range_it {pins:List (Addr×Obj)} {σ:St} {H:Hp} {s:Shared} {R:It→Hp→Prop} {E:Value→Shared→Prop} {lo hi:Int} {t u v:Tok} {tk:Nat} (I:Inv X pins σ H s) (h1 : -(2 ^ 62)≤lo) (h2:lo < 2 ^ 62) (h3 : -(2 ^ 62)≤hi) (h4:hi < 2 ^ 62)
  (q:R (Itr lo (hi - lo).toNat) H):wpAny (model X.prog X.w) X.A (pyIter (.ref s.heap.objs.size)) (PIE X pins σ tg R) E { s with heap:=s.heap.push { cls:=.type "range",data:=.fields #[.int lo t,.int hi u,.int 1 v] },toks:=tk }:=by
 refine wpAny_pyIter_range (IsRange.new ..) (small_one h1 h2 h3 h4) ?_
 have I1:Inv X pins σ H { s with heap:=s.heap.push { cls:=.type "range",data:=.fields #[.int lo t,.int hi u,.int 1 v] },toks:=tk }:=I.kept fun b o e=>Heap.get?_push_of_some _ e
 refine ⟨(s.heap.push { cls:=.type "range",data:=.fields #[.int lo t,.int hi u,.int 1 v] }).objs.size,[(s.heap.push { cls:=.type "range",data:=.fields #[.int lo t,.int hi u,.int 1 v] }).objs.size],_,_,H,rfl,
  I1.kept (t':=tk) fun b o e=>Heap.get?_push_of_some _ e,turn_range _ lo (hi - lo).toNat,?_,fun b hb=>?_,q⟩
 ·
  have e1:lo+((0:Nat):Int)*1=lo:=by simp
  have e2:(((hi - lo).toNat:Nat):Int) - ((0:Nat):Int)=Builtin.Range.rangeSize lo hi 1:=by rw [rangeSize_one]; split <;> omega
  show IsRangeIter _ _ (lo+((0:Nat):Int)*1) ((((hi - lo).toNat:Nat):Int) - ((0:Nat):Int)) 1
  rw [e1,e2]
  exact Heap.get?_push_size _ rfl
 ·
  have e:b=(s.heap.push { cls:=.type "range",data:=.fields #[.int lo t,.int hi u,.int 1 v] }).objs.size:=by simpa using hb
  subst e
  exact I1.fpOk (Nat.le_refl _) (I1.hok.fresh (Nat.le_refl _))
def iRng1 (ta:TA):TI:=fun σ H R=>ta σ H fun vs H1=>∃ j:Int,vs=[.int j]∧-(2 ^ 62)≤j∧j < 2 ^ 62∧R (Itr 0 j.toNat) H1
theorem pi_range1 {a:Expr} {ta:TA} {p pos:Pos} (hg:Gl X "range") (hm:X.mg "range"=none) (ha:PA X [a] ta) (hs:starEach [a] X.env=[(false,eval a X.env)]:=by rfl):PI X tg (.Call (.Name "range" p) [a] [] pos) (iRng1 ta):=by
 intro pins s σ H R I h
 refine Call_ (ld_blt I hg hm boot_range (PyProof.Rows.callWith_type1 (thn (ha pos pins s σ H _ I h) fun us s1 ⟨vs,H1,I1,r1,q1⟩=>?_) hs rfl))
 obtain ⟨j,e,q1,q2,q⟩:=q1
 subst e
 cases r1 with
 | cons r rr =>
  cases rr
  obtain ⟨t,rfl⟩:=r
  exact call_range_1 (range_it I1 (by omega) (by omega) q1 q2 (by simpa using q))
def pinsAt (fp:List Addr) (h:Heap):List (Addr×Obj):=fp.filterMap fun b=>(h.get? b).map fun o=>(b,o)
theorem mem_pinsAt {fp:List Addr} {h:Heap} {b:Addr} {o:Obj} (hb:b∈fp) (e:h.get? b=some o):(b,o)∈pinsAt fp h:=List.mem_filterMap.mpr ⟨b,hb,by rw [e]; rfl⟩
theorem of_pinsAt {fp:List Addr} {h:Heap} {p:Addr×Obj} (hp:p∈pinsAt fp h):p.1∈fp∧h.get? p.1=some p.2:=by
 obtain ⟨b,hb,e⟩:=List.mem_filterMap.mp hp
 cases q:h.get? b with
 | none=>rw [q] at e; cases e
 | some o =>
  rw [q] at e
  have e':(b,o)=p:=Option.some.inj e
  subst e'
  exact ⟨hb,q⟩
theorem Inv.pinned {pins:List (Addr×Obj)} {σ:St} {H:Hp} {s:Shared} {fp:List Addr} (I:Inv X pins σ H s) (hf:∀ b∈fp,FpOk X pins H b) (ho:∀ b∈fp,∃ o,s.heap.get? b=some o∧∀ v,o.data≠.cell v):Inv X (pins++pinsAt fp s.heap) σ H s :=
 I.pins_of fun p hp=>(List.mem_append.mp hp).elim (fun z=>I.pin p (List.mem_append_right _ z)) fun z=>by
  obtain ⟨hb,e⟩:=of_pinsAt z
  obtain ⟨f0,f1,f2,_⟩:=hf p.1 hb
  obtain ⟨o,e',d⟩:=ho p.1 hb
  rw [e] at e'; cases e'
  exact ⟨e,f0,f1,f2,d⟩
theorem Inv.unpinned {pins pl:List (Addr×Obj)} {σ:St} {H:Hp} {s:Shared} (I:Inv X (pins++pl) σ H s):Inv X pins σ H s:=I.pins_of fun p hp=>I.pin p (List.mem_append_right _ (List.mem_append_left _ hp))
end
end L2
namespace L2
open PySem PySem.Spec PyProof.Rows
abbrev R2:=V→V→Hp→VK→Prop
def OpR (X:Cx) (f:Value→Value→Sem Value) (r:R2):Prop :=
 ∀ (pins:List (Addr×Obj)) (s:Shared) (σ:St) (H:Hp) (x y:V) (v u:Value) (Q:VK),Inv X pins σ H s→RelV x v→RelV y u→r x y H Q →
  wpAny (model X.prog X.w) X.A (f v u) (EP X pins σ Q) X.xe s
def CallR (X:Cx) (f:Value) (r:List V→Hp→VK→Prop):Prop :=
 ∀ (pins:List (Addr×Obj)) (s:Shared) (σ:St) (H:Hp) (xs:List V) (us:List Value) (Q:VK),Inv X pins σ H s→Vals xs us→r xs H Q →
  wpAny (model X.prog X.w) X.A (call f us) (EP X pins σ Q) X.xe s
def tOp (r:R2) (ta tb:TE):TE:=fun σ H Q=>ta σ H fun x H1=>tb σ H1 fun y H2=>r x y H2 Q
def rI (C:Int→Int→Prop) (g:Int→Int→V):R2:=fun x y H Q=>∃ i j,x=.int i∧y=.int j∧C i j∧Q (g i j) H
def rI0 (g:Int→Int→V):R2:=fun x y H Q=>∃ i j,x=.int i∧y=.int j∧Q (g i j) H
section
variable {X:Cx} {a b c:Expr} {ta tb tc:TE} {pos:Pos}
theorem binT (ha:PE X a ta) (hb:PE X b tb) {pins:List (Addr×Obj)} {s:Shared} {σ:St} {H:Hp} {R:V→V→Hp→Prop} (I:Inv X pins σ H s)
  (h:ta σ H fun x H1=>tb σ H1 fun y H2=>R x y H2) {Q:Value→Shared→Prop} {f:Value→Value→Sem Value}
  (hf:∀ v u s2 x y H2,Inv X pins σ H2 s2→RelV x v→RelV y u→R x y H2→wpAny (model X.prog X.w) X.A (f v u) Q X.xe s2) :
  wpAny (model X.prog X.w) X.A (eval a X.env) (fun v s₁=>wpAny (model X.prog X.w) X.A (eval b X.env) (fun u s₂=>wpAny (model X.prog X.w) X.A (f v u) Q X.xe s₂) X.xe s₁) X.xe s:=by
 refine thn (ha pins s σ H _ I h) fun v s1 ⟨x,H1,I1,r1,q1⟩=>?_
 refine thn (hb pins s1 σ H1 _ I1 q1) fun u s2 ⟨y,H2,I2,r2,q2⟩=>?_
 exact hf v u s2 x y H2 I2 r1 r2 q2
theorem opI {f:Value→Value→Sem Value} {C:Int→Int→Prop} {g:Int→Int→Int}
  (rule:∀ (i j:Int) (t u:Tok) (s:Shared) (Q:Value→Shared→Prop) (E:Value→Shared→Prop),C i j→Q (.int (g i j) s.toks) { s with toks:=s.toks+1 }→wpAny (model X.prog X.w) X.A (f (.int i t) (.int j u)) Q E s) :
  OpR X f (rI C fun i j=>.int (g i j)):=by
 intro pins s σ H x y v u Q I rx ry h
 obtain ⟨i,j,rfl,rfl,hc,q⟩:=h
 obtain ⟨t,rfl⟩:=rx
 obtain ⟨t',rfl⟩:=ry
 exact rule i j t t' s _ _ hc ⟨.int (g i j),H,I.tok _,⟨_,rfl⟩,q⟩
theorem opI0 {f:Value→Value→Sem Value} {g:Int→Int→Int}
  (rule:∀ (i j:Int) (t u:Tok) (s:Shared) (Q:Value→Shared→Prop) (E:Value→Shared→Prop),Q (.int (g i j) s.toks) { s with toks:=s.toks+1 }→wpAny (model X.prog X.w) X.A (f (.int i t) (.int j u)) Q E s) :
  OpR X f (rI0 fun i j=>.int (g i j)):=by
 intro pins s σ H x y v u Q I rx ry h
 obtain ⟨i,j,rfl,rfl,q⟩:=h
 obtain ⟨t,rfl⟩:=rx
 obtain ⟨t',rfl⟩:=ry
 exact rule i j t t' s _ _ ⟨.int (g i j),H,I.tok _,⟨_,rfl⟩,q⟩
theorem opB0 {f:Value→Value→Sem Value} {g:Int→Int→Bool}
  (rule:∀ (i j:Int) (t u:Tok) (s:Shared) (Q:Value→Shared→Prop) (E:Value→Shared→Prop),Q (.bool (g i j)) s→wpAny (model X.prog X.w) X.A (f (.int i t) (.int j u)) Q E s) :
  OpR X f (rI0 fun i j=>.bl (g i j)):=by
 intro pins s σ H x y v u Q I rx ry h
 obtain ⟨i,j,rfl,rfl,q⟩:=h
 obtain ⟨t,rfl⟩:=rx
 obtain ⟨t',rfl⟩:=ry
 exact rule i j t t' s _ _ ⟨.bl (g i j),H,I,rfl,q⟩
def CPow (i j:Int):Prop:=0≤j∧j≤1000000∧i.natAbs < 2 ^ 64
def CMul (i j:Int):Prop:=(-(2 ^ 64) < i∧i < 2 ^ 64)∨(-(2 ^ 64) < j∧j < 2 ^ 64)
theorem CMul.ok {i j:Int} (h:CMul i j):IntMulOk i j:=by
 rcases h with ⟨h1,h2⟩ | ⟨h1,h2⟩
 ·
  exact .of_left (intBits_le_64 h1 h2)
 ·
  exact .of_right (intBits_le_64 h1 h2)
theorem op_add:OpR X (binaryOp .Add) (rI0 fun i j=>.int (i+j)):=opI0 fun _ _ _ _ _ _ _ q=>add_int q
theorem op_sub:OpR X (binaryOp .Sub) (rI0 fun i j=>.int (i - j)):=opI0 fun _ _ _ _ _ _ _ q=>sub_int q
theorem op_modN:OpR X (binaryOp .Mod) (rI (fun _ j=>j≠0) fun i j=>.int (i.fmod j)):=opI fun _ _ _ _ _ _ _ hc q=>mod_int' hc q
theorem op_pow:OpR X (binaryOp .Pow) (rI CPow fun i j=>.int (i ^ j.toNat)):=opI fun _ _ _ _ _ _ _ hc q=>pow_int_small hc.1 hc.2.1 hc.2.2 q
end
section
variable {X:Cx} {a b c:Expr} {ta tb tc:TE} {pos:Pos}
theorem fin_bl {pins:List (Addr×Obj)} {σ:St} {H:Hp} {s:Shared} {Q:VK} {k k':Bool} (I:Inv X pins σ H s) (q:Q (.bl k) H) (e:k=k'):EP X pins σ Q (.bool k') s:=by
 subst e
 exact ⟨.bl k,H,I,rfl,q⟩
theorem op_lt:OpR X (compareOp .Lt) (rI0 fun i j=>.bl (decide (i < j))):=opB0 fun _ _ _ _ _ _ _ q=>lt_int q
theorem op_le:OpR X (compareOp .LtE) (rI0 fun i j=>.bl (decide (i≤j))):=opB0 fun _ _ _ _ _ _ _ q=>le_int q
theorem op_gt:OpR X (compareOp .Gt) (rI0 fun i j=>.bl (decide (j < i))):=opB0 fun _ _ _ _ _ _ _ q=>gt_int q
theorem op_ge:OpR X (compareOp .GtE) (rI0 fun i j=>.bl (decide (j≤i))):=opB0 fun _ _ _ _ _ _ _ q=>ge_int q
theorem op_isN:OpR X (compareOp .Is) (fun x y H Q=>y=.non∧Q (.bl (decide (x=.non))) H):=by
 intro pins s σ H x y v u Q I rx ry h
 obtain ⟨rfl,q⟩:=h
 cases ry
 refine is_none_gen (fin_bl I q ?_)
 cases x <;> first
  | (cases rx; rfl)
  | (obtain ⟨t,rfl⟩:=rx; rfl)
theorem OpR.or {f:Value→Value→Sem Value} {r r':R2} (h:OpR X f r) (h':OpR X f r'):OpR X f (fun x y H Q=>r x y H Q∨r' x y H Q):=by
 intro pins s σ H x y v u Q I rx ry q
 rcases q with q | q
 ·
  exact h pins s σ H x y v u Q I rx ry q
 ·
  exact h' pins s σ H x y v u Q I rx ry q
theorem nomark (b:Expr) {op:CmpOp} (h:op≠.In:=by decide) (h2:op≠.NotIn:=by decide):behindInMarks op b=false:=by
 have e1:(op == CmpOp.In)=false:=by cases op <;> first | rfl | exact absurd rfl h
 have e2:(op == CmpOp.NotIn)=false:=by cases op <;> first | rfl | exact absurd rfl h2
 cases b <;> simp [behindInMarks,e1,e2]
def tTest (t:TE):TT:=fun σ H Q=>t σ H fun x H'=>∃ k,x=.bl k∧Q k H'
def tChain (r r':R2) (ta tb tc:TE):TE:=fun σ H Q=>ta σ H fun x H1=>tb σ H1 fun y H2=>r x y H2 fun z H3=>∃ k,z=.bl k ∧
 (if k=true then tc σ H3 fun w' H4=>r' y w' H4 Q else Q (.bl false) H3)
theorem pe_chain {op op':CmpOp} {r r':R2} (ho:OpR X (compareOp op) r) (ho':OpR X (compareOp op') r') (ha:PE X a ta) (hb:PE X b tb) (hc:PE X c tc)
  (hm:lastMarks [op,op'] [b,c]=false:=by with_unfolding_all rfl):PE X (.Compare a [op,op'] [b,c] pos) (tChain r r' ta tb tc):=by
 intro pins s σ H Q I h
 refine Compare_chain (thn (ha pins s σ H _ I h) fun v s1 ⟨x,H1,I1,r1,q1⟩=>chain_link (thn (hb pins s1 σ H1 _ I1 q1) fun u s2 ⟨y,H2,I2,r2,q2⟩ =>
  thn (ho pins s2 σ H2 x y v u _ I2 r1 r2 q2) fun d s3 ⟨z,H3,I3,r3,k,e,q3⟩=>?_)) hm
 subst e
 cases r3
 refine wpAny_truthy_bool ?_
 cases k with
 | false=>exact ite_ff ⟨.bl false,H3,I3,rfl,q3⟩
 | true=>exact ite_tt (chain_last (thn (hc pins s3 σ H3 _ I3 q3) fun w' s4 ⟨z',H4,I4,r4,q4⟩=>ho' pins s4 σ H4 y z' u w' Q I4 r2 r4 q4))
theorem pt_chain {op op':CmpOp} {r r':R2} (ho:OpR X (compareOp op) r) (ho':OpR X (compareOp op') r') (ha:PE X a ta) (hb:PE X b tb) (hc:PE X c tc)
  (hm:lastMarks [op,op'] [b,c]=false:=by with_unfolding_all rfl):PT X (.Compare a [op,op'] [b,c] pos) (tTest (tChain r r' ta tb tc)):=by
 intro pins s σ H Q I h
 refine isTrue_chain (thn (ha pins s σ H _ I h) fun v s1 ⟨x,H1,I1,r1,q1⟩=>test_link (thn (hb pins s1 σ H1 _ I1 q1) fun u s2 ⟨y,H2,I2,r2,q2⟩ =>
  thn (ho pins s2 σ H2 x y v u _ I2 r1 r2 q2) fun d s3 ⟨z,H3,I3,r3,k,e,q3⟩=>?_)) hm
 subst e
 cases r3
 refine wpAny_truthy_bool ?_
 cases k with
 | false =>
  obtain ⟨k',e',q'⟩:=q3
  cases e'
  exact ite_ff ⟨H3,I3,q'⟩
 | true =>
  refine ite_tt (test_last (thn (hc pins s3 σ H3 _ I3 q3) fun w' s4 ⟨z',H4,I4,r4,q4⟩=>thn (ho' pins s4 σ H4 y z' u w' _ I4 r2 r4 q4) fun d' s5 ⟨z2,H5,I5,r5,k2,e2,q5⟩=>?_))
  subst e2
  cases r5
  exact wpAny_truthy_bool ⟨H5,I5,q5⟩
theorem line63:(sizeLine:Nat) < 2 ^ 63:=by rw [sizeLine_eq]; decide
theorem op_add_str:OpR X (binaryOp .Add) (fun x y H Q=>∃ i j,x=.str i∧y=.str j∧i.length+j.length≤sizeLine∧Q (.str (i++j)) H):=by
 intro pins s σ H x y v u Q I rx ry h
 obtain ⟨i,j,rfl,rfl,hz,q⟩:=h
 obtain ⟨t,rfl⟩:=rx
 obtain ⟨t',rfl⟩:=ry
 exact add_str (fun t' tk=>⟨.str (i++j),H,I.tok _,⟨_,rfl⟩,q⟩) hz
theorem vals1 {x:V} {us:List Value} (r:Vals [x] us):∃ u,us=[u]∧RelV x u:=by
 cases r with
 | cons r1 r2=>cases r2; exact ⟨_,rfl,r1⟩
theorem vals2 {x y:V} {us:List Value} (r:Vals [x,y] us):∃ u w',us=[u,w']∧RelV x u∧RelV y w':=by
 cases r with
 | cons r1 r2 =>
  cases r2 with
  | cons r3 r4=>cases r4; exact ⟨_,_,rfl,r1,r3⟩
theorem call_abs:CallR X (.builtin "abs") (fun xs H Q=>∃ i,xs=[.int i]∧Q (.int (if i < 0 then -i else i)) H):=by
 intro pins s σ H xs us Q I r h
 obtain ⟨i,rfl,q⟩:=h
 obtain ⟨u,rfl,t,rfl⟩:=vals1 r
 exact call_abs_int fun u tk=>⟨.int (if i < 0 then -i else i),H,I.tok _,⟨_,rfl⟩,q⟩
theorem call_max2 (hc:X.calm=true):CallR X (.builtin "max") (fun xs H Q=>∃ i j,xs=[.int i,.int j]∧Q (.int (if j > i then j else i)) H):=by
 intro pins s σ H xs us Q I r h
 obtain ⟨i,j,rfl,q⟩:=h
 obtain ⟨u,w',rfl,⟨t,rfl⟩,⟨t',rfl⟩⟩:=vals2 r
 refine max_two_ints (I.ok.hd hc) fun h' tk k=>⟨_,H,I.kept k,?_,q⟩
 by_cases hj:j > i
 ·
  rw [if_pos hj,if_pos hj]; exact ⟨_,rfl⟩
 ·
  rw [if_neg hj,if_neg hj]; exact ⟨_,rfl⟩
theorem call_min2 (hc:X.calm=true):CallR X (.builtin "min") (fun xs H Q=>∃ i j,xs=[.int i,.int j]∧Q (.int (if j < i then j else i)) H):=by
 intro pins s σ H xs us Q I r h
 obtain ⟨i,j,rfl,q⟩:=h
 obtain ⟨u,w',rfl,⟨t,rfl⟩,⟨t',rfl⟩⟩:=vals2 r
 refine min_two_ints (I.ok.hd hc) fun h' tk k=>⟨_,H,I.kept k,?_,q⟩
 by_cases hj:j < i
 ·
  rw [if_pos hj,if_pos hj]; exact ⟨_,rfl⟩
 ·
  rw [if_neg hj,if_neg hj]; exact ⟨_,rfl⟩
theorem call_int1:CallR X (.type "int") (fun xs H Q=>(∃ i,xs=[.int i]∧Q (.int i) H)∨∃ k,xs=[.bl k]∧Q (.int (if k then 1 else 0)) H):=by
 intro pins s σ H xs us Q I r h
 rcases h with ⟨i,rfl,q⟩ | ⟨k,rfl,q⟩
 ·
  obtain ⟨u,rfl,t,rfl⟩:=vals1 r
  exact call_int_int ⟨.int i,H,I,⟨_,rfl⟩,q⟩
 ·
  obtain ⟨u,rfl,r1⟩:=vals1 r
  cases r1
  exact call_int_bool ⟨.int (if k then 1 else 0),H,I.tok _,⟨_,rfl⟩,q⟩
end
end L2
namespace L2
open PySem PySem.Spec PyProof.Rows
section
variable {prog:Program} {w:World} {A:Around} {E:Value→Shared→Prop} {s:Shared} {K:PySem.W.Frag} {x dx C f:Addr} {mA:Str→Option Value} {name:Str} {v:Value}
end
section
variable {P:Program} {w:World} {H H':Hp} {h h':Heap} {a C dx:Addr} {fs fs':List (Str×V)}
end
structure Cls (K:PySem.W.Frag) (C:Addr):Prop where
 pg:PySem.W.plainGet K C Str.empty=true
 hd:PySem.W.hasDictIn K C=true
 po:PySem.W.plainOver K C=true
 sa:PySem.W.findIn K (.ref C) "__setattr__"=some (some (.builtin "object.__setattr__"))
theorem Cls.get {K:PySem.W.Frag} {C:Addr} (c:Cls K C) (f:Str):PySem.W.plainGet K C f=true:=c.pg
section
variable {X:Cx} {pins:List (Addr×Obj)} {σ:St} {H:Hp} {s:Shared} {a C dx:Addr} {fs:List (Str×V)} {f:Str} {v:V} {A:Around} {E:Value→Shared→Prop}
theorem Inv.made (I:Inv X pins σ H s):Inv X pins σ (upd (upd H s.heap.objs.size (.own (s.heap.objs.size+1))) (s.heap.objs.size+1) (.ins C s.heap.objs.size []))
  { s with heap:=(s.heap.push PySem.W.emptyDict).push (PySem.W.instObj C s.heap.objs.size) }:=by
 have e1:(s.heap.push PySem.W.emptyDict).get? s.heap.objs.size=some PySem.W.emptyDict:=Heap.get?_push_size s.heap rfl
 have e2:((s.heap.push PySem.W.emptyDict).push (PySem.W.instObj C s.heap.objs.size)).get? (s.heap.objs.size+1)=some (PySem.W.instObj C s.heap.objs.size):=by
  have:=Heap.get?_push_size (s.heap.push PySem.W.emptyDict) (o:=PySem.W.instObj C s.heap.objs.size) rfl
  rwa [Heap.size_push] at this
 have e3:(s.heap.push PySem.W.emptyDict).Ns s.heap.objs.size (fun _=>none):=⟨PySem.W.emptyDict,#[],_,e1,rfl,(fun e he=>absurd he (by simp)),fun _=>rfl⟩
 have I1:=I.laid (a:=s.heap.objs.size) (o:=.own (s.heap.objs.size+1)) (h':=s.heap.push PySem.W.emptyDict) (t':=s.toks) (fun b u q=>Heap.get?_push_of_some _ q) (Nat.le_refl _) ⟨_,e1⟩
 refine I1.laid (a:=s.heap.objs.size+1) (o:=.ins C s.heap.objs.size []) (t':=s.toks) (fun b u q=>Heap.get?_push_of_some _ q) (Nat.le_of_eq (Heap.size_push _ _)) ?_
 have ne:s.heap.objs.size≠s.heap.objs.size+1:=Nat.ne_of_lt (Nat.lt_succ_self _)
 refine ⟨by rw [upd_ne ne,upd_same],Nat.zero_le _,ne,e2,fun _=>none,(Heap.Ns1.of_empty e3).at fun o q=>Heap.get?_push_of_some _ q,fun _=>True.intro,fun y hy=>absurd rfl hy⟩
end
section
variable {X:Cx} {o e value:Expr} {f:Str} {pos pos' tpos:Pos} {ta tv:TE}
end
section
variable {X:Cx} {pins:List (Addr×Obj)} {σ:St} {H:Hp} {s:Shared} {A:Around} {E:Value→Shared→Prop} {Q:Value→Shared→Prop} {c:Value} {b:Bool}
end
end L2
namespace L2
open PySem PySem.Spec PyProof.Rows
structure Room (k:Nat) (A:Around):Prop where
 hd:A.handled=none
 dp:A.depth+3*k+5 < recursionLimit
 un:A.units+16*k+200 < cLine
 gd:A.guards=some []
theorem Room.mono {j k:Nat} {A:Around} (r:Room k A) (h:j≤k):Room j A:=⟨r.hd,by have:=r.dp; omega,by have:=r.un; omega,r.gd⟩
theorem Room.deeper {k:Nat} {A:Around} (r:Room (k+1) A) (env:Env):Room k (A.deeper env) :=
 ⟨r.hd,by have:=r.dp; show A.depth+1+3*k+5 < _; omega,by have:=r.un; show A.units+3+16*k+200 < _; omega,r.gd⟩
theorem Room.in1 {k:Nat} {A:Around} (r:Room (k+1) A):Room k A.in1 :=
 ⟨r.hd,by have:=r.dp; show A.depth+3*k+5 < _; omega,by have:=r.un; show A.units+1+16*k+200 < _; omega,r.gd⟩
theorem make_depth {A:Around} {C:Addr} {us:List Value} {kw:List (Str×Value)}:(A.under (.builtin "type.__call__" ⟨.ref C::us,kw⟩)).depth=A.depth+1:=by
 first | rfl | simp [Around.under,Code.weight,Code.isCreation,Code.isGuard,Code.isCaller,Code.frames,Code.isFrame,guardIds]
theorem make_units {A:Around} {C:Addr} {us:List Value} {kw:List (Str×Value)}:(A.under (.builtin "type.__call__" ⟨.ref C::us,kw⟩)).units=A.units+1:=by
 first | rfl | simp [Around.under,Code.cUnits,Code.frames,Code.isFrame]
theorem Room.make {k:Nat} {A:Around} (r:Room (k+1) A) (C:Addr) (us:List Value) (kw:List (Str×Value)):Room k (A.under (.builtin "type.__call__" ⟨.ref C::us,kw⟩)) :=
 ⟨r.hd,by have:=r.dp; rw [make_depth]; omega,by have:=r.un; rw [make_units]; omega,by rw [← r.gd]; first | rfl | simp [Around.under,Code.guards,Code.isGuard,pushGuards,guardIds]⟩
theorem Room.depth {k:Nat} {A:Around} (r:Room k A):A.depth < recursionLimit:=by have:=r.dp; omega
theorem Room.units {k:Nat} {A:Around} (r:Room k A):A.units+64 < cLine:=by have:=r.un; omega
def tNil:TA:=fun _ H Q=>Q [] H
def tCons (ta:TE) (tr:TA):TA:=fun σ H Q=>ta σ H fun x H1=>tr σ H1 fun xs H2=>Q (x::xs) H2
section
variable {X:Cx} {e:Expr} {es:List Expr} {te:TE} {t:TA} {pos:Pos}
theorem pa_nil:PA X [] tNil:=fun _ _ _ _ H Q I h=>Calls.spliced_nil ⟨[],H,I,.nil,h⟩
theorem pa_cons (ha:PE X e te) (hr:PA X es t) (hs:starEach (e::es) X.env=(false,eval e X.env)::starEach es X.env:=by rfl):PA X (e::es) (tCons te t):=by
 intro pos pins s σ H Q I h
 rw [hs]
 show wpAny _ _ (spliced ((false,eval e X.env)::backTo pos (starEach es X.env))) _ _ s
 refine Calls.spliced_cons (thn (ha pins s σ H _ I h) fun u s1 ⟨x,H1,I1,r1,q1⟩=>?_)
 exact thn (hr pos pins s1 σ H1 _ I1 q1) fun us s2 ⟨xs,H2,I2,r2,q2⟩=>⟨x::xs,H2,I2,.cons r1 r2,q2⟩
end
abbrev Sp:=List V→Hp→VK→XK→Prop
abbrev CXT:=List Env→Hp→Shared→XK→Value→Shared→Prop
structure Env0 (P:Program) (w:World) (K:PySem.W.Frag) (mg:Str→Option Value) (base:Heap) (A:Around) (outer:List Env) (s:Shared) (H:Hp):Prop where
 frames:A.frames=some outer
 mod:Mod K mg base
 bs:∀ b o,base.get? b=some o→s.heap.get? b=some o∧H b=none
 bsz:base.objs.size≤s.heap.objs.size
 funs:s.heap.FunFrames base outer
 frf:∀ b∈frs outer,H b=none
 hok:HOk P w H s.heap
 bare:AllBare s.gens
 tbs:Tbs K H
def CE (outer:List Env) (P:Program) (w:World) (H:Hp) (s:Shared) (Q:VK) (u:Value) (s':Shared):Prop :=
 ∃ v H',s'.os=s.os∧AllBare s'.gens∧Un (frs outer) [] H H' s.heap s'.heap∧HOk P w H' s'.heap∧RelV v u∧Q v H'
def CR (CX:CXT) (outer:List Env) (P:Program) (w:World) (H:Hp) (s:Shared) (Q:VK) (E:XK) (r:Result) (s':Shared):Prop :=
 match r with
 | .ok (.ret u)=>CE outer P w H s Q u s'
 | .ok _=>False
 | .error e=>CX outer H s E e s'
structure FnOk (P:Program) (w:World) (K:PySem.W.Frag) (mg:Str→Option Value) (base:Heap) (CX:CXT) (k:Nat) (f:Addr) (fd:FuncData) (ps:List Str) (sp:Sp):Prop where
 len:∀ vs H Q E,sp vs H Q E→vs.length=ps.length
 run:∀ (A:Around) (outer:List Env) (s:Shared) (H:Hp) (args:Args) (us:List Value) (vs:List V) (Q:VK) (E:XK),Room k A→Env0 P w K mg base A outer s H→BindsTo s fd args (ps.zip us)→Vals vs us→sp vs H Q E →
  codeAny (model P w) A (.call (.ref f) args) (CR CX outer P w H s Q E) s
theorem FnOk.mono {P:Program} {w:World} {K:PySem.W.Frag} {mg:Str→Option Value} {base:Heap} {CX:CXT} {j k:Nat} {f:Addr} {fd:FuncData} {ps:List Str} {sp:Sp} (F:FnOk P w K mg base CX j f fd ps sp) (h:j≤k) :
  FnOk P w K mg base CX k f fd ps sp:=⟨F.len,fun A outer s H args us vs Q E hr=>F.run A outer s H args us vs Q E (hr.mono h)⟩
theorem FnOk.imp {P:Program} {w:World} {K:PySem.W.Frag} {mg:Str→Option Value} {base:Heap} {CX:CXT} {k:Nat} {f:Addr} {fd:FuncData} {ps:List Str} {sp sp':Sp} (F:FnOk P w K mg base CX k f fd ps sp)
  (h:∀ vs H Q E,sp' vs H Q E→sp vs H Q E):FnOk P w K mg base CX k f fd ps sp' :=
 ⟨fun vs H Q E q=>F.len vs H Q E (h _ _ _ _ q),fun A outer s H args us vs Q E hr he hb hv hs=>F.run A outer s H args us vs Q E hr he hb hv (h _ _ _ _ hs)⟩
theorem Env0.make {P:Program} {w:World} {K:PySem.W.Frag} {mg:Str→Option Value} {base:Heap} {A:Around} {outer:List Env} {s:Shared} {H:Hp} (e:Env0 P w K mg base A outer s H) (C:Addr) (us:List Value) (kw:List (Str×Value)) :
  Env0 P w K mg base (A.under (.builtin "type.__call__" ⟨.ref C::us,kw⟩)) outer s H:=⟨by first | exact e.frames | (simpa [Around.under,Code.envs,Code.isFrame,pushEnvs] using e.frames),e.mod,e.bs,e.bsz,e.funs,e.frf,e.hok,e.bare,e.tbs⟩
theorem Env0.in1 {P:Program} {w:World} {K:PySem.W.Frag} {mg:Str→Option Value} {base:Heap} {A:Around} {outer:List Env} {s:Shared} {H:Hp} (e:Env0 P w K mg base A outer s H) :
  Env0 P w K mg base A.in1 outer s H:=⟨e.frames,e.mod,e.bs,e.bsz,e.funs,e.frf,e.hok,e.bare,e.tbs⟩
section
variable {X:Cx} {pins:List (Addr×Obj)} {σ:St} {H:Hp} {s s':Shared}
theorem Inv.env0 (I:Inv X pins σ H s):Env0 X.prog X.w X.K X.mg X.base X.A X.stack s H :=
 ⟨I.ok.frames,I.ok.mod,I.bs,Nat.le_trans I.ok.bsz I.sz,I.stack,I.stkFree,I.hok,I.bare,I.tbs⟩
theorem Inv.after {Q:VK} {u:Value} (I:Inv X pins σ H s) (h:CE X.stack X.prog X.w H s Q u s'):EP X pins σ Q u s':=by
 obtain ⟨v,H',os,bare,un,hok,r,q⟩:=h
 obtain ⟨hh,g,d,t,os'⟩:=s'
 obtain rfl:os'=s.os:=os
 exact ⟨v,H',I.call (h':=hh) (g':=g) (d':=d) (t':=t) (ch:=[]) un hok bare (fun b z=>absurd z (by simp)),r,q⟩
end
def Binds (K:PySem.W.Frag) (fd:FuncData) (ps:List Str) (ds:List Value):Prop :=
 ∀ (s:Shared) (us:List Value),K.In s.heap→(us++ds).length=ps.length→BindsTo s fd ⟨us,[]⟩ (ps.zip (us++ds))
theorem Binds.all {K:PySem.W.Frag} {fd:FuncData} {ps:List Str} (h:∀ us:List Value,us.length=ps.length→bindArgs fd ⟨us,[]⟩=pure (ps.zip us)):Binds K fd ps []:=fun s us _ hl=>by
 rw [List.append_nil] at hl ⊢
 exact .of_eq (h us hl)
def Passes (CX:CXT) (X:Cx) (E:XK):Prop:=∀ (pins:List (Addr×Obj)) (σ:St) (H:Hp) (s:Shared) (e:Value) (s':Shared),Inv X pins σ H s→CX X.stack H s E e s'→X.xe e s'
section
variable {X:Cx} {CX:CXT} {k:Nat} {f C:Addr} {fd:FuncData} {ps:List Str} {sp:Sp} {dvs:List V} {ds:List Value} {E:XK} {x m:Str} {p pos apos:Pos} {e o:Expr} {es:List Expr} {ta:TE} {t:TA}
theorem run_fn {pins:List (Addr×Obj)} {σ:St} {H:Hp} {s:Shared} {Q:VK} {us:List Value} {vs:List V} (F:FnOk X.prog X.w X.K X.mg X.base CX k f fd ps sp) (hr:Room k X.A) (hb:Binds X.K fd ps ds) (hd:Vals dvs ds) (hx:Passes CX X E)
  (I:Inv X pins σ H s) (r:Vals vs us) (h:sp (vs++dvs) H Q E):wpAny (model X.prog X.w) X.A (call (.ref f) us) (EP X pins σ Q) X.xe s:=by
 have r2:Vals (vs++dvs) (us++ds):=r.append hd
 have hl:(us++ds).length=ps.length:=by rw [← r2.length]; exact F.len _ _ _ _ h
 refine wpAny_call (codeAny_mono (F.run X.A X.stack s H ⟨us,[]⟩ (us++ds) (vs++dvs) Q E hr I.env0 (hb s us I.kIn hl) r2 h) fun r s' hq=>?_)
 cases r with
 | error e=>exact hx pins σ H s e s' I hq
 | ok fl =>
  cases fl with
  | ret u=>exact I.after hq
  | next=>exact False.elim hq
  | brk=>exact False.elim hq
  | cont=>exact False.elim hq
end
section
variable {X:Cx} {CX:CXT} {k:Nat} {f C:Addr} {fd:FuncData} {ps ks:List Str} {sp:Sp} {E:XK} {x m:Str} {p pos apos kpos:Pos} {e o:Expr} {es:List Expr} {kws:List Keyword} {te ta:TE} {t tk:TA} {nm:Option Str}
variable {g:List Value→List Value→List Value} {gV:List V→List V→List V}
end
structure FnScope (N P:List Str) (sc:Scope):Prop where
 kind:sc.kind=.function
 co:sc.isCoroutine=false
 gen:sc.isGenerator=false
 nd:N.Nodup
 pre:N.take P.length=P
 par:∀ x∈P,sc.names.lookup x=some .local∨sc.names.lookup x=some .cell
 nofree:∀ y∈sc.names,y.2≠.free
theorem bindL_out {kindOf:Str→Option NameKind} {x:Str}:∀ {binds:List (Str×Value)} {m:Str→Option Value},(∀ v,(x,v)∉binds)→bindL kindOf binds m x=m x
 | [],_,_=>rfl
 | (n,v)::r,m,h=>by
  unfold bindL
  rw [bindL_out fun w hw=>h w (List.mem_cons_of_mem _ hw)]
  split
  ·
   have:x≠n:=by rintro rfl; exact h v List.mem_cons_self
   simp [this]
  ·
   rfl
theorem bindC_out {kindOf:Str→Option NameKind} {x:Str}:∀ {binds:List (Str×Value)} {m:Str→Option Value},(∀ v,(x,v)∉binds)→bindC kindOf binds m x=m x
 | [],_,_=>rfl
 | (n,v)::r,m,h=>by
  unfold bindC
  rw [bindC_out fun w hw=>h w (List.mem_cons_of_mem _ hw)]
  split
  ·
   rfl
  ·
   have:x≠n:=by rintro rfl; exact h v List.mem_cons_self
   simp [this]
theorem bindL_get {kindOf:Str→Option NameKind} {x:Str} {v:Value}:∀ {P:List Str} {vs:List Value} {i:Nat} {m:Str→Option Value},P.Nodup→P[i]?=some x→vs[i]?=some v→kindOf x=some .local →
  bindL kindOf (P.zip vs) m x=some v
 | [],_,_,_,_,h,_,_=>by simp at h
 | _::_,[],_,_,_,_,h,_=>by simp at h
 | p::P,w::vs,0,m,nd,h1,h2,hk=>by
  simp at h1 h2; subst h1; subst h2
  show bindL kindOf ((p,w)::P.zip vs) m p=_
  unfold bindL
  rw [bindL_out fun v hv=>(List.nodup_cons.mp nd).1 (List.of_mem_zip hv).1,if_pos hk]
  simp
 | p::P,w::vs,i+1,m,nd,h1,h2,hk=>by
  show bindL kindOf ((p,w)::P.zip vs) m x=_
  unfold bindL
  exact bindL_get (i:=i) (List.nodup_cons.mp nd).2 (by simpa using h1) (by simpa using h2) hk
theorem bindC_get {kindOf:Str→Option NameKind} {x:Str} {v:Value}:∀ {P:List Str} {vs:List Value} {i:Nat} {m:Str→Option Value},P.Nodup→P[i]?=some x→vs[i]?=some v→kindOf x≠some .local →
  bindC kindOf (P.zip vs) m x=some v
 | [],_,_,_,_,h,_,_=>by simp at h
 | _::_,[],_,_,_,_,h,_=>by simp at h
 | p::P,w::vs,0,m,nd,h1,h2,hk=>by
  simp at h1 h2; subst h1; subst h2
  show bindC kindOf ((p,w)::P.zip vs) m p=_
  unfold bindC
  rw [bindC_out fun v hv=>(List.nodup_cons.mp nd).1 (List.of_mem_zip hv).1,if_neg hk]
  simp
 | p::P,w::vs,i+1,m,nd,h1,h2,hk=>by
  show bindC kindOf ((p,w)::P.zip vs) m x=_
  unfold bindC
  exact bindC_get (i:=i) (List.nodup_cons.mp nd).2 (by simpa using h1) (by simpa using h2) hk
def start (N:List Str) (vs:List V):St:=vs.map some++List.replicate (N.length - vs.length) none
def cxOf (CX:CXT) (P:Program) (w:World) (K:PySem.W.Frag) (mg:Str→Option Value) (base:Heap) (N:List Str) (qual:Str) (scope:Scope) (f:Addr) (cd:Value) (A:Around) (outer:List Env) (s:Shared) (H:Hp) (E:XK):Cx where
 prog:=P
 w:=w
 K:=K
 mg:=mg
 base:=base
 A:=A.deeper (envOfC qual scope s.heap.objs.size f cd)
 N:=N
 s₀:=s
 H₀:=H
 env:=envOfC qual scope s.heap.objs.size f cd
 outer:=outer
 stack:=envOfC qual scope s.heap.objs.size f cd::outer
 ex:=[]
 calm:=true
 fn:=fun _=>true
 pn:=[]
 xe:=fun e s'=>wpAny (model P w) (A.deeper (envOfC qual scope s.heap.objs.size f cd)) (leaving (envOfC qual scope s.heap.objs.size f cd) e) (fun _ s''=>CX outer H s E e s'') (fun e' s''=>CX outer H s E e' s'') s'
theorem cell_has {sc:Scope} {n:Nat} {x:Str} (h:sc.names.lookup x=some .cell):∃ c,(cellsFrom n sc.names []).lookup x=some c:=by
 have q:=PySem.W.cellsFrom_some sc.names n [] (.inl h)
 exact Option.isSome_iff_exists.mp q
theorem inv_start {CX:CXT} {P:Program} {w:World} {K:PySem.W.Frag} {mg:Str→Option Value} {base:Heap} {N ps:List Str} {qual:Str} {scope:Scope} {f:Addr} {cd:Value} {A:Around} {outer:List Env} {s s1:Shared} {H:Hp} {E:XK} {us:List Value} {vs:List V}
  (S:FnScope N ps scope) (hd:A.handled=none) (e0:Env0 P w K mg base A outer s H) (hl:vs.length=ps.length) (r:Vals vs us)
  (x:InCallC s s.heap.objs.size (bindL (envOfC qual scope s.heap.objs.size f cd).kindOf (ps.zip us) fun _=>none) (cellsFrom (s.heap.objs.size+1) scope.names []) (bindC (envOfC qual scope s.heap.objs.size f cd).kindOf (ps.zip us) fun _=>none) s1) :
  Inv (cxOf CX P w K mg base N qual scope f cd A outer s H E) [] (start N vs) H s1:=by
 have hpl:ps.length≤N.length:=by have:=congrArg List.length S.pre; rw [List.length_take] at this; omega
 obtain ⟨h1,tk,rfl,hk⟩:=x.done
 have noA:∀ b:Addr,b∉(cxOf CX P w K mg base N qual scope f cd A outer s H E).ex:=fun b z=>absurd (show b∈([]:List Addr) from z) (by simp)
 refine ⟨⟨e0.mod,S.kind,rfl,rfl,Nat.le_refl _,fun y z c h1 h2=>?_,fun y hy=>?_,fun y c _ h=>?_,fun _=>hd,Around.frames_deeper e0.frames,.inr ⟨rfl,rfl⟩,fun b z=>absurd z (noA b),e0.bs,e0.bsz,fun b _ _=>noA b,fun b z=>absurd z (noA b),e0.funs,e0.frf,e0.tbs⟩,
  rfl,e0.bare,Un.kept hk,⟨_,x.toInCall.ns,fun i y v h1 h2 h3=>?_⟩,fun y c h=>⟨_,x.cell y c h⟩,e0.hok.fresh (Nat.le_refl _),fun y c h=>?_,fun p hp=>absurd (show p∈([]:List (Addr×Obj)) from hp) (by simp),e0.hok.kept hk,?_⟩
 ·
  exact name_of_addr x.apart (PySem.mem_of_lookup h1) (PySem.mem_of_lookup h2)
 ·
  have hy:scope.names.lookup y=some .cell∨scope.names.lookup y=some .free:=hy
  rcases hy with hy | hy
  ·
   exact cell_has hy
  ·
   exact absurd rfl (S.nofree _ (PySem.mem_of_lookup hy))
 ·
  exact Nat.le_of_lt (x.above y c (PySem.mem_of_lookup h))
 ·
  have hi:i < vs.length:=by
   unfold start at h2
   by_cases hi:i < vs.length
   ·
    exact hi
   ·
    rw [List.getElem?_append_right (by simpa using hi)] at h2
    rw [List.getElem?_replicate] at h2
    split at h2 <;> cases h2
  have ha:vs[i]?=some v:=by
   unfold start at h2
   rw [List.getElem?_append_left (by simpa using hi),List.getElem?_map] at h2
   cases e:vs[i]? with
   | none=>rw [e] at h2; cases h2
   | some a=>rw [e] at h2; cases h2; rfl
  obtain ⟨u,hu,rv⟩:=r.get ha
  have hp:ps[i]?=some y:=by
   rw [← S.pre,List.getElem?_take_of_lt (by omega)]; exact h1
  have ndP:ps.Nodup:=by rw [← S.pre]; exact S.nd.sublist (List.take_sublist _ _)
  refine ⟨u,rv,?_⟩
  rcases S.par y (List.mem_of_getElem? hp) with k | k
  ·
   exact .inl ⟨k,bindL_get ndP hp hu k⟩
  ·
   obtain ⟨c,e⟩:=cell_has (n:=s.heap.objs.size+1) k
   refine .inr ⟨.inl k,c,e,?_⟩
   have q:=x.cell y c e
   rw [bindC_get ndP hp hu (by show scope.names.lookup y≠_; rw [k]; decide)] at q
   exact q
 ·
  exact .inl (e0.hok.fresh (Nat.le_of_lt (x.above y c (PySem.mem_of_lookup h))))
 ·
  unfold start
  show _=N.length
  rw [List.length_append,List.length_map,List.length_replicate]
  omega
theorem fn_of {CX:CXT} {P:Program} {w:World} {K:PySem.W.Frag} {mg:Str→Option Value} {base:Heap} {k:Nat} {f:Addr} {name qual:Str} {params:Arguments} {body:List Stmt} {scope:Scope} {dV kV doc pm cdv ct oc:Value} {an od:Option Addr}
  {osl:Array (Option Value)} {N ps:List Str} {sp:Sp} (lk:K.lookup f=some ⟨oc,od,.func (PySem.W.fnOf name qual params body scope dV kV doc pm an cdv ct),osl⟩) (hcd:PySem.W.codeIn K cdv qual=true) (S:FnScope N ps scope)
  (len:∀ vs H Q E,sp vs H Q E→vs.length=ps.length)
  (hbody:∀ (A:Around) (outer:List Env) (s:Shared) (H:Hp) (vs:List V) (Q:VK) (E:XK),Room k (A.deeper (envOfC qual scope s.heap.objs.size f cdv))→sp vs H Q E →
   ∃ t,PSs (cxOf CX P w K mg base N qual scope f cdv A outer s H E) body t∧t { nx:=fun _ H'=>Q .non H',rt:=Q } (start N vs) H) :
  FnOk P w K mg base CX (k+1) f (PySem.W.fnOf name qual params body scope dV kV doc pm an cdv ct) ps sp:=by
 refine ⟨len,fun A outer s H args us vs Q E hr e0 hb r hsp=>?_⟩
 have hl:=len _ _ _ _ hsp
 have KX:K.In s.heap:=e0.mod.kin.keeps fun b o e=>(e0.bs b o e).1
 have lim:s.heap.NoLimit:=e0.mod.nolimit.keeps fun b o e=>(e0.bs b o e).1
 have hkind:∀ y∈ps.zip us,scope.names.lookup y.1=some .local∨(scope.names.lookup y.1=some .cell∧((cellsFrom (s.heap.objs.size+1) scope.names []).lookup y.1).isSome=true):=fun ⟨n,v⟩ hy=>by
  rcases S.par n (List.of_mem_zip hy).1 with q | q
  ·
   exact .inl q
  ·
   exact .inr ⟨q,PySem.W.cellsFrom_some _ _ _ (.inl q)⟩
 refine codeAny_call_function hr.depth (KX _ _ lk) rfl S.co S.gen rfl (PySem.W.codeRec_of KX hcd) (hb _ _ _ _ ?_)
 refine wpAny_newFunctionEnv_cells S.kind hkind fun env he s1 x=>?_
 subst he
 refine ⟨lim.keeps x.toInCall.keep,codeAny_func ?_⟩
 obtain ⟨t,ht,hq⟩:=hbody A outer s H vs Q E (hr.deeper _) hsp
 have I:Inv (cxOf CX P w K mg base N qual scope f cdv A outer s H E) [] (start N vs) H s1:=inv_start S hr.hd e0 hl r x
 refine wpAny_mono (ht [] s1 (start N vs) H _ I hq) (fun fl s' hs=>?_) fun e s' hs=>hs
 have fin:∀ {σ':St} {H':Hp} {v:V} {u:Value},Inv (cxOf CX P w K mg base N qual scope f cdv A outer s H E) [] σ' H' s'→RelV v u→Q v H'→CE outer P w H s Q u s' :=
  fun {σ' H' v u} J rv q=>⟨v,H',J.os,J.bare,J.base,J.hok,rv,q⟩
 cases fl with
 | ret u =>
  obtain ⟨v,σ',H',J,rv,q⟩:=hs
  exact fin J rv q
 | next =>
  obtain ⟨σ',H',J,q⟩:=hs
  exact fin (v:=V.non) (u:=Value.none) J rfl q
 | brk =>
  obtain ⟨_,_,_,q⟩:=hs
  exact False.elim q
 | cont =>
  obtain ⟨_,_,_,q⟩:=hs
  exact False.elim q
end L2
namespace L2
open PySem PySem.Spec PyProof.Rows
section
variable {X:Cx} {x:Str} {p pos:Pos} {e:Expr} {es:List Expr} {t:TA} {id T:String} {r:List V→Hp→VK→Prop}
def tCB (r:List V→Hp→VK→Prop) (t:TA):TE:=fun σ H Q=>t σ H fun vs H1=>r vs H1 Q
theorem pe_callB (hc:CallR X (.builtin id) r) (hg:Gl X x) (hm:X.mg x=none) (hv:bootBuiltins x=some (.builtin id)) (ha:PA X (e::es) t) (hn:x≠"__name__":=by decide) (hdb:(x == ("__debug__" : Str))=false:=by decide)
  (he:starEach (e::es) X.env=(false,eval e X.env)::starEach es X.env:=by rfl) (hpl:(backTo pos (starEach es X.env)).any (·.1)=false:=by rfl):PE X (.Call (.Name x p) (e::es) [] pos) (tCB r t):=by
 intro pins s σ H Q I h
 refine wpAny_Call_Name_kw (ld_blt I hg hm hv ?_ hn hdb)
 exact PyProof.Rows.callWith_builtin1 (thn (ha pos pins s σ H _ I h) fun us s1 ⟨vs,H1,I1,r1,q1⟩=>hc pins s1 σ H1 vs us Q I1 r1 q1) he hpl
end
end L2
namespace HT
open PySem PyProof.Rows
section
open PySem.SeqAt
open PySem.AutoSeq1 (wpAny_loadPart')
open PySem.MeetsSeq PySem.MeetsSeq2 PySem.MeetsSeq3
end
section
variable {prog:Program} {w:World} {A:Around} {E:Value→Shared→Prop} {s:Shared}
def sIx (n d:Nat):Option Int→Nat
 | none=>d
 | some v=>if v < 0 then (v+(n:Int)).toNat else min v.toNat n
theorem sIx_le (n d:Nat) (hd:d≤n) (o:Option Int):sIx n d o≤n:=by
 cases o with
 | none=>exact hd
 | some v =>
  show (if v < 0 then (v+(n:Int)).toNat else min v.toNat n)≤n
  by_cases hv:v < 0
  ·
   rw [if_pos hv]; omega
  ·
   rw [if_neg hv]; exact Nat.min_le_right _ _
theorem clip_eq (v:Int) (n d:Nat):(if v < 0 then max (v+(n:Int)) 0 else min v (n:Int))=((sIx n d (some v):Nat):Int):=by
 show (if v < 0 then max (v+(n:Int)) 0 else min v (n:Int))=(((if v < 0 then (v+(n:Int)).toNat else min v.toNat n):Nat):Int)
 by_cases hv:v < 0
 ·
  simp only [if_pos hv]; omega
 ·
  simp only [if_neg hv]; omega
theorem adjust_gen (lo hi:Option Int) (n:Nat):Builtin.Slice.sliceAdjust lo hi 1 (n:Int)=(((sIx n 0 lo:Nat):Int),((sIx n n hi:Nat):Int)):=by
 have h1:¬ ((1:Int) < 0):=by omega
 unfold Builtin.Slice.sliceAdjust
 simp only [h1,if_false]
 refine Prod.ext ?_ ?_
 ·
  cases lo with
  | none=>rfl
  | some v=>exact clip_eq v n 0
 ·
  cases hi with
  | none=>rfl
  | some v=>exact clip_eq v n n
theorem places_gen (i j:Nat):Builtin.Slice.slicePlaces (i:Int) (j:Int) 1=j - i:=by
 unfold Builtin.Slice.slicePlaces
 have h1:(1:Int) > 0:=by omega
 simp only [h1,if_true,Int.ediv_one]
 split <;> omega
theorem slicePart_ {v:Value} {o:Option Int} {Q:Option Int→Shared→Prop} (p:IsPart v o) (h:Q o s):wpAny (model prog w) A (Builtin.Slice.slicePartIndex v) Q E s:=by
 cases p with
 | none=>exact slicePart_none h
 | int i t=>exact slicePart_int h
theorem sliceApplied_gen {sl:Addr} {vl vu:Value} {lo hi:Option Int} {n:Nat} {Q:Int×Int×Nat→Shared→Prop} (hs:s.heap.IsSliceOf sl vl vu .none) (pl:IsPart vl lo) (pu:IsPart vu hi)
  (h:Q (((sIx n 0 lo:Nat):Int),1,sIx n n hi - sIx n 0 lo) s):wpAny (model prog w) A (Builtin.Slice.sliceApplied (.ref sl) (pure (n:Int))) Q E s:=by
 obtain ⟨os,hos,hcs,hds⟩:=id hs
 unfold Builtin.Slice.sliceApplied Builtin.Slice.sliceFields
 refine wpAny_bind (wpAny_bind (wpAny_field hos hds (x:=vl) rfl (wpAny_bind (wpAny_field hos hds (x:=vu) rfl (wpAny_bind (wpAny_field hos hds (x:=.none) rfl (wpAny_pure ?_)))))))
 refine wpAny_bind (slicePart_none ?_)
 show wpAny _ _ (if ((1:Int) == 0)=true then _ else _) _ _ s
 rw [if_neg (by decide)]
 refine wpAny_bind (slicePart_ pl (wpAny_bind (slicePart_ pu (wpAny_bind (wpAny_pure ?_)))))
 show wpAny _ _ (match Builtin.Slice.sliceAdjust lo hi 1 (n:Int) with | (lo,hi)=>pure (lo,(1:Int),Builtin.Slice.slicePlaces lo hi 1)) _ _ s
 rw [adjust_gen lo hi n]
 show wpAny _ _ (pure (((sIx n 0 lo:Nat):Int),(1:Int),Builtin.Slice.slicePlaces ((sIx n 0 lo:Nat):Int) ((sIx n n hi:Nat):Int) 1)) _ _ s
 rw [places_gen]
 exact wpAny_pure h
theorem pick_gen (xs:Array Value) (i k:Nat):((List.range k).filterMap fun (m:Nat)=>xs[((i:Int)+(m:Int)*1).toNat]?).toArray=((xs.toList.drop i).take k).toArray:=by
 have e:(fun (m:Nat)=>xs[((i:Int)+(m:Int)*1).toNat]?)=fun m=>xs[i+m]?:=by
  funext m
  have:((i:Int)+(m:Int)*1).toNat=i+m:=by omega
  rw [this]
 rw [e]
 have:=pick_run xs i k
 rw [List.filterMap_map] at this
 have e2:((fun x=>xs[x]?) ∘ fun x=>i+x)=fun m=>xs[i+m]?:=rfl
 rw [e2] at this
 rw [this]
theorem getItem_tuple_cut {t sl:Addr} {items:Array Value} {vl vu:Value} {lo hi:Option Int} {Q:Value→Shared→Prop} (ht:IsTup s.heap t items) (hs:s.heap.IsSliceOf sl vl vu .none) (pl:IsPart vl lo) (pu:IsPart vu hi)
  (hw:¬ (sIx items.size 0 lo=0∧sIx items.size items.size hi=items.size))
  (h:Q (.ref s.heap.objs.size) { s with heap:=s.heap.push { cls:=.type "tuple",data:=.seq ((items.toList.drop (sIx items.size 0 lo)).take (sIx items.size items.size hi - sIx items.size 0 lo)).toArray } })
  (hsz:items.size≤sizeLine):wpAny (model prog w) A (getItem (.ref t) (.ref sl)) Q E s:=by
 have htake:sizeOk (.seq ((items.toList.drop (sIx items.size 0 lo)).take (sIx items.size items.size hi - sIx items.size 0 lo)).toArray):=by
  show ((items.toList.drop (sIx items.size 0 lo)).take (sIx items.size items.size hi - sIx items.size 0 lo)).toArray.size≤sizeLine
  rw [List.size_toArray,List.length_take,List.length_drop,Array.length_toList]
  omega
 have hj:sIx items.size items.size hi≤items.size:=sIx_le _ _ (Nat.le_refl _) hi
 obtain ⟨os,hos,hcs,hds⟩:=id hs
 have hTs:s.TypeIs (.ref sl) "slice":=⟨os,hos,hcs⟩
 unfold getItem
 try with_reducible refine wpAny_holding ?_
 first | refine wpAny_bind (wpAny_pure ?_) | skip
 refine wpAny_bind (wpAny_sequenceKey ht.typeIs (by decide) ?_)
 refine wpAny_bind (wpAny_callSpecial?_slot (name:=Str.ofString "__getitem__") ht.typeIs PyProof.Rows.slot_tuple_getitem
  (wpAny_call_entry PyProof.Rows.slot_tuple_getitem ht.typeIs entry_tuple_getitem ?_ (args_tuple_getitem _ _)))
 show wpAny _ _ (Builtin.Tuple.tupleItemsOf (.ref t) >>= _) _ _ s
 refine wpAny_bind (tupleItemsOf_ ht ?_)
 refine wpAny_bind (wpAny_typeOf hTs ?_)
 rw [if_pos (by decide)]
 refine wpAny_bind (sliceApplied_gen hs pl pu ?_)
 have hno:¬ ((((sIx items.size 0 lo:Nat):Int) == 0 && (1:Int) == 1 && (sIx items.size items.size hi - sIx items.size 0 lo) == items.size)=true):=by
  intro q
  rw [Bool.and_eq_true,Bool.and_eq_true] at q
  have q1:((sIx items.size 0 lo:Nat):Int)=0:=eq_of_beq q.1.1
  have q2:sIx items.size items.size hi - sIx items.size 0 lo=items.size:=eq_of_beq q.2
  exact hw ⟨by omega,by omega⟩
 show wpAny _ _ (if (((sIx items.size 0 lo:Nat):Int) == 0 && (1:Int) == 1 && (sIx items.size items.size hi - sIx items.size 0 lo) == items.size)=true then _ else _) _ _ s
 rw [if_neg hno,pick_gen]
 first
  | exact wpAny_bind (m:=Builtin.Tuple.tupleExact _) (wpAny_newObj_type (wpAny_pure ⟨_,rfl,wpAny_pure h⟩) htake)
  | exact wpAny_bind (m:=Builtin.Tuple.tupleExact _) (wpAny_newObj_type (wpAny_bind (wpAny_pure (wpAny_pure ⟨_,rfl,wpAny_pure h⟩))) htake)
  | exact wpAny_bind (wpAny_bind (m:=Builtin.Tuple.tupleExact _) (wpAny_newObj_type (wpAny_pure (wpAny_pure ⟨_,rfl,wpAny_pure h⟩)) htake))
  | exact wpAny_bind (wpAny_bind (m:=Builtin.Tuple.tupleExact _) (wpAny_newObj_type (wpAny_pure ⟨_,rfl,wpAny_pure h⟩) htake))
end
end HT
namespace L2
open PySem PySem.Spec PyProof.Rows
abbrev TO:=St→Hp→(Option Int→Hp→Prop)→Prop
def PO (X:Cx) (e:Option Expr) (t:TO):Prop :=
 ∀ (pins:List (Addr×Obj)) (s:Shared) (σ:St) (H:Hp) (Q:Option Int→Hp→Prop),Inv X pins σ H s→t σ H Q →
  wpAny (model X.prog X.w) X.A (evalPart e X.env) (fun u s'=>∃ o H',Inv X pins σ H' s'∧IsPart u o∧Q o H') X.xe s
def tNoPart:TO:=fun _ H Q=>Q none H
def tPart (t:TE):TO:=fun σ H Q=>t σ H fun x H1=>∃ i,x=.int i∧Q (some i) H1
section
variable {X:Cx} {e:Expr} {te:TE} {lo hi:Option Expr} {tl th:TO} {pos p2:Pos}
theorem po_none:PO X none tNoPart:=by
 intro pins s σ H Q I h
 rw [evalPart_none]
 exact wpAny_pure ⟨none,H,I,.none,h⟩
theorem po_some (h:PE X e te):PO X (some e) (tPart te):=by
 intro pins s σ H Q I hw
 rw [evalPart_some]
 refine thn (h pins s σ H _ I hw) fun u s1 ⟨x,H1,I1,r1,q1⟩=>?_
 obtain ⟨i,rfl,q⟩:=q1
 obtain ⟨t,rfl⟩:=r1
 exact ⟨some i,H1,I1,.int i t,q⟩
def SlR (X:Cx) (r:V→Option Int→Option Int→Hp→VK→Prop):Prop :=
 ∀ (pins:List (Addr×Obj)) (s:Shared) (σ:St) (H:Hp) (x:V) (v vl vu:Value) (lo hi:Option Int) (sl:Addr) (Q:VK),Inv X pins σ H s→RelV x v→s.heap.IsSliceOf sl vl vu .none→IsPart vl lo→IsPart vu hi→r x lo hi H Q →
  ∃ T id,typeLookup (.type T) "__getitem__"=pure (some (.builtin id))∧s.TypeIs v T∧wpAny (model X.prog X.w) X.A (getItem v (.ref sl)) (EP X pins σ Q) X.xe s
theorem SlR.or {r r':V→Option Int→Option Int→Hp→VK→Prop} (h:SlR X r) (h':SlR X r'):SlR X (fun x lo hi H Q=>r x lo hi H Q∨r' x lo hi H Q):=by
 intro pins s σ H x v vl vu lo hi sl Q I rx hs pl pu q
 rcases q with q | q
 ·
  exact h pins s σ H x v vl vu lo hi sl Q I rx hs pl pu q
 ·
  exact h' pins s σ H x v vl vu lo hi sl Q I rx hs pl pu q
def tSl (r:V→Option Int→Option Int→Hp→VK→Prop) (te:TE) (tl th:TO):TE:=fun σ H Q=>te σ H fun x H1=>tl σ H1 fun l H2=>th σ H2 fun u H3=>r x l u H3 Q
theorem pe_slice {r:V→Option Int→Option Int→Hp→VK→Prop} (hr:SlR X r) (he:PE X e te) (hl:PO X lo tl) (hu:PO X hi th):PE X (.Subscript e (.Slice lo hi none p2) pos) (tSl r te tl th):=by
 intro pins s σ H Q I h
 refine Subscript_ (thn (he pins s σ H _ I h) fun v s1 ⟨x,H1,I1,r1,q1⟩=>?_)
 refine wpAny_Slice (thn (hl pins s1 σ H1 _ I1 q1) fun vl s2 ⟨l,H2,I2,pl,q2⟩=>thn (hu pins s2 σ H2 _ I2 q2) fun vu s3 ⟨u,H3,I3,pu,q3⟩=>?_)
 rw [evalPart_none]
 refine wpAny_pure ?_
 have I4:Inv X pins σ H3 { s3 with heap:=s3.heap.push { cls:=.type "slice",data:=.fields #[vl,vu,.none] } }:=I3.kept (t':=s3.toks) fun b ob q=>Heap.get?_push_of_some _ q
 obtain ⟨T,id,hT,ht,hg⟩:=hr pins { s3 with heap:=s3.heap.push { cls:=.type "slice",data:=.fields #[vl,vu,.none] } } σ H3 x v vl vu l u s3.heap.objs.size Q I4 r1 (Heap.IsSliceOf.new ..) pl pu q3
 show wpAny (model X.prog X.w) X.A (subscriptTail e (.Slice lo hi none p2) v (.ref s3.heap.objs.size)) (EP X pins σ Q) X.xe { s3 with heap:=s3.heap.push { cls:=.type "slice",data:=.fields #[vl,vu,.none] } }
 exact tail_any (ops:=[.ref s3.heap.objs.size,v]) ht hT hg (by with_unfolding_all rfl)
def cutV (xs:List V) (lo hi:Option Int):List V:=(xs.drop (HT.sIx xs.length 0 lo)).take (HT.sIx xs.length xs.length hi - HT.sIx xs.length 0 lo)
theorem cutV_length (xs:List V) (lo hi:Option Int):(cutV xs lo hi).length≤xs.length:=by
 unfold cutV
 rw [List.length_take,List.length_drop]
 omega
def rSlT (K:PySem.W.Frag):V→Option Int→Option Int→Hp→VK→Prop:=fun x lo hi H Q=>∃ a xs,x=.ref a∧SqT K H a xs ∧
 ¬ (HT.sIx xs.length 0 lo=0∧HT.sIx xs.length xs.length hi=xs.length)∧∀ p,H p=none→Q (.ref p) (upd H p (.tup (cutV xs lo hi)))
theorem sl_tup:SlR X (rSlT X.K):=by
 intro pins s σ H x v vl vu lo hi sl Q I rx hs pl pu h
 obtain ⟨a,xs,rfl,hx,hw,q⟩:=h
 cases rx
 obtain ⟨its,r,ht,hz⟩:=I.tuple hx
 have hlen:its.toArray.size=xs.length:=by rw [List.size_toArray]; exact r.length.symm
 refine ⟨"tuple",_,PyProof.Rows.slot_tuple_getitem.lookup,ht.typeIs,?_⟩
 refine HT.getItem_tuple_cut ht hs pl pu (by rw [hlen]; exact hw) ?_ (by rw [hlen]; exact hz)
 rw [hlen]
 refine ⟨.ref s.heap.objs.size,_,I.laid (t':=s.toks) (o:=.tup (cutV xs lo hi)) (fun b ob q=>Heap.get?_push_of_some _ q) (Nat.le_refl _) ?_,rfl,q _ (I.hok.fresh (Nat.le_refl _))⟩
 exact ⟨Nat.le_trans (cutV_length xs lo hi) hz,_,(r.drop (HT.sIx xs.length 0 lo)).take (HT.sIx xs.length xs.length hi - HT.sIx xs.length 0 lo),IsTup.new _ _⟩
end
end L2
namespace L2
open PySem PySem.Spec PyProof.Rows
def ixN (n:Nat) (i:Int):Option Nat:=if 0≤i then (if i < n then some i.toNat else none) else if -(n:Int)≤i then some (i+n).toNat else none
def atI {α:Type} (xs:List α) (i:Int):Option α:=(ixN xs.length i).bind fun j=>xs[j]?
theorem ixN_seq {n:Nat} {i:Int} {j:Nat} (h:ixN n i=some j):seqIndex? i n=some j∧j < n∧-(n:Int)≤i∧i < n:=by
 unfold ixN at h
 by_cases h0:0≤i
 ·
  rw [if_pos h0] at h
  by_cases h1:i < n
  ·
   rw [if_pos h1] at h
   have e:i.toNat=j:=Option.some.inj h
   exact ⟨by rw [seqIndex_of h0 h1,e],by omega,by omega,h1⟩
  ·
   rw [if_neg h1] at h; cases h
 ·
  rw [if_neg h0] at h
  by_cases h1 : -(n:Int)≤i
  ·
   rw [if_pos h1] at h
   have e:(i+n).toNat=j:=Option.some.inj h
   exact ⟨by rw [seqIndex_neg (by omega) h1,e],by omega,h1,by omega⟩
  ·
   rw [if_neg h1] at h; cases h
theorem atI_get {α:Type} {xs:List α} {i:Int} {v:α} (h:atI xs i=some v):∃ j,seqIndex? i xs.length=some j∧xs[j]?=some v∧j < xs.length∧-(xs.length:Int)≤i∧i < xs.length:=by
 unfold atI at h
 cases e:ixN xs.length i with
 | none=>rw [e] at h; cases h
 | some j =>
  rw [e] at h
  obtain ⟨h1,h2,h3,h4⟩:=ixN_seq e
  exact ⟨j,h1,h,h2,h3,h4⟩
theorem atI_nat {α:Type} {xs:List α} {j:Nat} {v:α} (h:xs[j]?=some v):atI xs (j:Int)=some v:=by
 have hj:j < xs.length:=(List.getElem?_eq_some_iff.mp h).1
 have e:ixN xs.length (j:Int)=some j:=by
  unfold ixN
  rw [if_pos (by omega),if_pos (by omega)]; simp
 unfold atI; rw [e]; exact h
def PlainIx (b:Expr):Prop:=∀ o i,subscripted b false o i=operate [o,i] (getItem o i)
def IxR (X:Cx) (r:R2):Prop :=
 ∀ (value slice:Expr) (pins:List (Addr×Obj)) (s:Shared) (σ:St) (H:Hp) (x y:V) (v u:Value) (Q:VK),Inv X pins σ H s→RelV x v→RelV y u→r x y H Q →
  subscripted slice false v u=operate [v,u] (getItem v u)→wpAny (model X.prog X.w) X.A (subscriptTail value slice v u) (EP X pins σ Q) X.xe s
def MtR (X:Cx) (id:String) (r:V→List V→Hp→VK→Prop):Prop :=
 ∀ (pins:List (Addr×Obj)) (s:Shared) (σ:St) (H:Hp) (x:V) (xs:List V) (v:Value) (us:List Value) (Q:VK),Inv X pins σ H s→RelV x v→Vals xs us→r x xs H Q →
  wpAny (model X.prog X.w) X.A (call (.builtin id) (v::us)) (EP X pins σ Q) X.xe s
section
variable {X:Cx} {a b:Expr} {ta tb:TE} {pos:Pos}
theorem IxR.or {r r':R2} (h:IxR X r) (h':IxR X r'):IxR X (fun x y H Q=>r x y H Q∨r' x y H Q):=by
 intro value slice pins s σ H x y v u Q I rx ry q hs
 rcases q with q | q
 ·
  exact h value slice pins s σ H x y v u Q I rx ry q hs
 ·
  exact h' value slice pins s σ H x y v u Q I rx ry q hs
theorem MtR.or {id:String} {r r':V→List V→Hp→VK→Prop} (h:MtR X id r) (h':MtR X id r'):MtR X id (fun x xs H Q=>r x xs H Q∨r' x xs H Q):=by
 intro pins s σ H x xs v us Q I rx rs q
 rcases q with q | q
 ·
  exact h pins s σ H x xs v us Q I rx rs q
 ·
  exact h' pins s σ H x xs v us Q I rx rs q
theorem pe_ix {r:R2} (hr:IxR X r) (ha:PE X a ta) (hb:PE X b tb) (hs:PlainIx b):PE X (.Subscript a b pos) (tOp r ta tb):=by
 intro pins s σ H Q I h
 exact Subscript_ (binT ha hb I h fun v u s2 x y H2 I2 rx ry q=>hr a b pins s2 σ H2 x y v u Q I2 rx ry q (hs _ _))
def rIxL (K:PySem.W.Frag):R2:=fun x y H Q=>∃ p xs i v,x=.ref p∧y=.int i∧SqL K H p xs∧atI xs i=some v∧Q v H
def rIxT (K:PySem.W.Frag):R2:=fun x y H Q=>∃ p xs i v,x=.ref p∧y=.int i∧SqT K H p xs∧atI xs i=some v∧Q v H
def rIxS:R2:=fun x y H Q=>∃ z i c,x=.str z∧y=.int i∧z.length≤sizeLine∧atI z.cps.toList i=some c∧Q (.str ⟨#[c]⟩) H
theorem ix_list:IxR X (rIxL X.K):=by
 intro value slice pins s σ H x y v u Q I rx ry h hs
 obtain ⟨p,xs,i,z,rfl,rfl,hq,he,q⟩:=h
 cases rx
 obtain ⟨t,rfl⟩:=ry
 obtain ⟨its,r,pl,hz⟩:=I.list hq
 obtain ⟨j,h1,h2,h3,h4,h5⟩:=atI_get he
 obtain ⟨w,ew,rw'⟩:=r.get h2
 have hl:=r.length
 have hn:=line63
 have fin:EP X pins σ Q w s:=⟨z,H,I,rw',q⟩
 by_cases h0:0≤i
 ·
  have hj:i.toNat=j:=by
   rw [seqIndex_of h0 h5] at h1
   exact Option.some.inj h1
  exact item_listR pl.isList h0 (by omega) (by rw [hj]; simpa using ew) fin hs
 ·
  have hj:(i+(its.toArray.size:Int)).toNat=j:=by
   rw [seqIndex_neg (by omega) h4] at h1
   rw [List.size_toArray,← hl]
   exact Option.some.inj h1
  exact subscriptTail_builtinR (x:=w) pl.isList.typeIs slot_list_getitem.lookup
   (wpAny_getItem_list_neg (Q:=fun r s'=>r=w∧EP X pins σ Q r s') pl.isList (by omega) (by rw [List.size_toArray] <;> omega) (by omega) (by rw [hj]; simpa using ew) ⟨rfl,fin⟩) hs
theorem ix_tup:IxR X (rIxT X.K):=by
 intro value slice pins s σ H x y v u Q I rx ry h hs
 obtain ⟨p,xs,i,z,rfl,rfl,hq,he,q⟩:=h
 cases rx
 obtain ⟨t,rfl⟩:=ry
 obtain ⟨its,r,pl,hz⟩:=I.tuple hq
 obtain ⟨j,h1,h2,h3,h4,h5⟩:=atI_get he
 obtain ⟨w,ew,rw'⟩:=r.get h2
 have hl:=r.length
 have hn:=line63
 have fin:EP X pins σ Q w s:=⟨z,H,I,rw',q⟩
 exact subscriptTail_builtinR (x:=w) pl.typeIs slot_tuple_getitem.lookup
  (getItem_tuple (j:=j) (Q:=fun r s'=>r=w∧EP X pins σ Q r s') pl (by omega) (by omega) (by rw [List.size_toArray,← hl]; exact h1) (by simpa using ew) ⟨rfl,fin⟩) hs
theorem ix_str:IxR X rIxS:=by
 intro value slice pins s σ H x y v u Q I rx ry h hs
 obtain ⟨z,i,c,rfl,rfl,hz,he,q⟩:=h
 obtain ⟨t,rfl⟩:=rx
 obtain ⟨t',rfl⟩:=ry
 obtain ⟨j,h1,h2,h3,h4,h5⟩:=atI_get he
 have hl:z.cps.toList.length=z.length:=by simp [Str.length]
 rw [hl] at h1 h4 h5
 have hn:=line63
 exact tail_any (typeIs_str s z t) slot_str_getitem.lookup (getItem_str (c:=c) (by
  have e1:decide (i < -(2 ^ 63:Int))=false:=decide_eq_false (by omega)
  have e2:decide (i≥2 ^ 63)=false:=decide_eq_false (by omega)
  rw [e1,e2,Bool.or_false]) (by rw [h1]; simpa using h2) ⟨.str ⟨#[c]⟩,H,I.tok _,⟨_,rfl⟩,q⟩) hs
theorem mapSeq_set (its:List Value) (n j:Nat) (u:Value):Obj.mapSeq (·.setIfInBounds j u) { cls:=.type "list",data:=.seq its.toArray n }={ cls:=.type "list",data:=.seq (its.set j u).toArray n }:=by
 simp [Obj.mapSeq]
theorem Inv.lst {pins:List (Addr×Obj)} {σ:St} {H:Hp} {s:Shared} {p:Addr} {xs:List V} (I:Inv X pins σ H s) (h:H p=some (.lst xs)) :
  ∃ (its:List Value) (n:Nat),Vals xs its∧s.heap.get? p=some { cls:=.type "list",data:=.seq its.toArray n }∧xs.length≤sizeLine:=by
 obtain ⟨z,its,n,r,e⟩:=I.hok p _ h
 exact ⟨its,n,r,e,z⟩
theorem Inv.lstUpd {pins:List (Addr×Obj)} {σ:St} {H:Hp} {s:Shared} {p:Addr} {xs ys:List V} {its its':List Value} {n n':Nat} {f:Obj→Obj} (I:Inv X pins σ H s) (h:H p=some (.lst xs))
  (ho:s.heap.get? p=some { cls:=.type "list",data:=.seq its.toArray n }) (hf:f { cls:=.type "list",data:=.seq its.toArray n }={ cls:=.type "list",data:=.seq its'.toArray n' }) (r:Vals ys its') (hz:ys.length≤sizeLine) (t:Nat) :
  Inv X pins σ (upd H p (.lst ys)) { s with heap:=s.heap.update p f,toks:=t }:=by
 have e:(s.heap.update p f).get? p=some { cls:=.type "list",data:=.seq its'.toArray n' }:=by
  rw [Heap.get?_update_self f ho (by rw [hf] <;> rfl),hf]
 refine I.write (x:=p) (e:=p) (by rw [h]; trivial) (.inl rfl) (fun b u hb q=>(Heap.get?_update_other _ _ (Ne.symm hb)).trans q) ⟨_,e⟩ ?_
 exact ⟨hz,its',n',r,e⟩
def rSetL:V→V→V→Hp→(Hp→Prop)→Prop:=fun o i v H Q=>∃ p xs k j,o=.ref p∧i=.int k∧H p=some (.lst xs)∧ixN xs.length k=some j∧Q (upd H p (.lst (xs.set j v)))
theorem set_list:PSet X rSetL:=by
 intro pins s σ H o i v ov iv u Q I ro ri rv h
 obtain ⟨p,xs,k,j,rfl,rfl,hp,hj,q⟩:=h
 cases ro
 obtain ⟨t,rfl⟩:=ri
 obtain ⟨its,n,r,ho,hz⟩:=I.lst hp
 obtain ⟨h1,h2,h3,h4⟩:=ixN_seq hj
 have hl:=r.length
 have hn:=line63
 have I':Inv X pins σ (upd H p (.lst (xs.set j v))) { s with heap:=s.heap.update p (Obj.mapSeq (·.setIfInBounds j u)) } :=
  I.lstUpd hp ho (mapSeq_set its n j u) (r.set rv j) (by rw [List.length_set]; exact hz) s.toks
 by_cases h0:0≤k
 ·
  have hk:k.toNat=j:=by
   rw [seqIndex_of h0 h4] at h1
   exact Option.some.inj h1
  exact PySem.W.ki_setAt ho h0 (by omega) (by rw [List.size_toArray,← hl]; exact h4) (by rw [hk]; exact ⟨_,I',q⟩)
 ·
  have hk:(k+(its.toArray.size:Int)).toNat=j:=by
   rw [seqIndex_neg (by omega) h3] at h1
   rw [List.size_toArray,← hl]
   exact Option.some.inj h1
  exact PySem.W.ki_setBack ho (by omega) (by rw [List.size_toArray,← hl]; exact h3) (by omega) (by rw [hk]; exact ⟨_,I',q⟩)
theorem slice_bounds (lo hi:Option Int) (n:Nat):(sliceBounds lo hi none n).1=((HT.sIx n 0 lo:Nat):Int)∧(sliceBounds lo hi none n).2.1=((HT.sIx n n hi:Nat):Int)∧(sliceBounds lo hi none n).2.2=1:=by
 refine ⟨?_,?_,rfl⟩
 ·
  cases lo with
  | none=>simp [sliceBounds,HT.sIx]
  | some i =>
   simp only [sliceBounds,HT.sIx,Option.getD_none,show (1:Int) > 0 by decide,if_true]
   by_cases h:i < 0
   ·
    simp only [h,if_true] <;> omega
   ·
    simp only [h,if_false] <;> omega
 ·
  cases hi with
  | none=>simp [sliceBounds,HT.sIx]
  | some i =>
   simp only [sliceBounds,HT.sIx,Option.getD_none,show (1:Int) > 0 by decide,if_true]
   by_cases h:i < 0
   ·
    simp only [h,if_true] <;> omega
   ·
    simp only [h,if_false] <;> omega
theorem slicePick_cut (its:List Value) (lo hi:Option Int):slicePick its.toArray lo hi none=((its.drop (HT.sIx its.length 0 lo)).take (HT.sIx its.length its.length hi - HT.sIx its.length 0 lo)).toArray:=by
 obtain ⟨h1,h2,h3⟩:=slice_bounds lo hi its.toArray.size
 unfold slicePick
 rw [h1,h2,h3]
 simp only [sliceRange_one,pick_run,List.size_toArray] <;> rfl
def rSlL (K:PySem.W.Frag):V→Option Int→Option Int→Hp→VK→Prop:=fun x lo hi H Q=>∃ a xs,x=.ref a∧SqL K H a xs∧∀ p,H p=none→Q (.ref p) (upd H p (.lst (cutV xs lo hi)))
theorem sl_list:SlR X (rSlL X.K):=by
 intro pins s σ H x v vl vu lo hi sl Q I rx hs pl pu h
 obtain ⟨a,xs,rfl,hx,q⟩:=h
 cases rx
 obtain ⟨its,r,ht,hz⟩:=I.list hx
 have hlen:=r.length
 refine ⟨"list",_,slot_list_getitem.lookup,ht.isList.typeIs,?_⟩
 refine wpAny_getItem_list_slice ht.isList hs pl pu .none (by simp) ?_ (by rw [List.size_toArray] <;> omega)
 rw [slicePick_cut,← hlen]
 refine ⟨.ref s.heap.objs.size,_,I.laid (t':=s.toks) (o:=.lst (cutV xs lo hi)) (fun b ob q=>Heap.get?_push_of_some _ q) (Nat.le_refl _) ?_,rfl,q _ (I.hok.fresh (Nat.le_refl _))⟩
 exact ⟨Nat.le_trans (cutV_length xs lo hi) hz,_,0,(r.drop (HT.sIx xs.length 0 lo)).take (HT.sIx xs.length xs.length hi - HT.sIx xs.length 0 lo),Heap.get?_push_size _ rfl⟩
theorem call_len_seq:CallR X (.builtin "len") (fun xs H Q=>∃ p ys,xs=[.ref p]∧(SqL X.K H p ys∨SqT X.K H p ys)∧Q (.int ys.length) H):=by
 intro pins s σ H xs us Q I r h
 obtain ⟨p,ys,rfl,hq,q⟩:=h
 obtain ⟨u,rfl,rx⟩:=vals1 r
 cases rx
 have hn:=line63
 rcases hq with hq | hq
 ·
  obtain ⟨its,r',pl,hz⟩:=I.list hq
  have hlen:=r'.length
  exact Calls.call_len_list pl.isList (by simp only [List.size_toArray] <;> omega) ⟨.int ys.length,H,I.tok _,⟨s.toks+1,by rw [List.size_toArray,hlen]⟩,q⟩
 ·
  obtain ⟨its,r',pl,hz⟩:=I.tuple hq
  have hlen:=r'.length
  exact len_tuple pl (by simp only [List.size_toArray] <;> omega) ⟨.int ys.length,H,I.tok _,⟨s.toks+1,by rw [List.size_toArray,hlen]⟩,q⟩
theorem call_len_str:CallR X (.builtin "len") (fun xs H Q=>∃ z,xs=[.str z]∧z.length≤sizeLine∧Q (.int z.length) H):=by
 intro pins s σ H xs us Q I r h
 obtain ⟨z,rfl,hz,q⟩:=h
 obtain ⟨u,rfl,t,rfl⟩:=vals1 r
 have hn:=line63
 exact len_str (by omega) ⟨.int z.length,H,I.tok _,⟨_,rfl⟩,q⟩
theorem CallR.or {f:Value} {r r':List V→Hp→VK→Prop} (h:CallR X f r) (h':CallR X f r'):CallR X f (fun xs H Q=>r xs H Q∨r' xs H Q):=by
 intro pins s σ H xs us Q I rs q
 rcases q with q | q
 ·
  exact h pins s σ H xs us Q I rs q
 ·
  exact h' pins s σ H xs us Q I rs q
theorem call_list_of:CallR X (.type "list") (fun xs H Q=>∃ p ys,xs=[.ref p]∧(SqL X.K H p ys∨SqT X.K H p ys)∧∀ l,H l=none→Q (.ref l) (upd H l (.lst ys))):=by
 intro pins s σ H xs us Q I r h
 obtain ⟨p,ys,rfl,hq,q⟩:=h
 obtain ⟨u,rfl,rx⟩:=vals1 r
 cases rx
 have fin:∀ (its:List Value),Vals ys its→ys.length≤sizeLine→∀ (h':Heap) (c':Nat),(∀ b o',s.heap.get? b=some o'→h'.get? b=some o') →
   h'.get? s.heap.objs.size=some { cls:=.type "list",dict:=none,data:=.seq its.toArray c',slots:=#[] }→EP X pins σ Q (.ref s.heap.objs.size) { s with heap:=h' }:=fun its r' hz h' c' kp e =>
  ⟨.ref s.heap.objs.size,_,I.laid (t':=s.toks) kp (Nat.le_refl _) (show ObjOk X.prog X.w _ h' _ (.lst ys) from ⟨hz,its,c',r',e⟩),rfl,q _ (I.hok.fresh (Nat.le_refl _))⟩
 rcases hq with hq | hq
 ·
  obtain ⟨its,r',pl,hz⟩:=I.list hq
  have hlen:=r'.length
  obtain ⟨o,ho,hc,n,hd⟩:=pl.isList
  exact call_list_seq p (.inl rfl) ho hc hd (fun h' c' kp e=>fin its r' hz h' c' kp e) (by simp only [List.size_toArray] <;> omega)
 ·
  obtain ⟨its,r',pl,hz⟩:=I.tuple hq
  have hlen:=r'.length
  obtain ⟨o,ho,hc,n,hd⟩:=pl
  exact call_list_seq p (.inr rfl) ho hc hd (fun h' c' kp e=>fin its r' hz h' c' kp e) (by simp only [List.size_toArray] <;> omega)
def tyV (K:PySem.W.Frag) (T:String) (x:V) (H:Hp):Prop:=match x with
 | .str _=>T="str"
 | .int _=>T="int"
 | .ref p=>(T="list"∧∃ xs,SqL K H p xs)∨(T="tuple"∧∃ o,K.lookup p=some o∧o.cls=.type "tuple"∧o.dict=none) ∨
   (T="dict"∧((∃ kvs,H p=some (.dK kvs))∨∃ kvs,H p=some (.dT kvs)))∨(T="set"∧∃ S n,H p=some (.set S n))
 | _=>False
theorem tyV_is {pins:List (Addr×Obj)} {σ:St} {H:Hp} {s:Shared} {T:String} {x:V} {v:Value} (I:Inv X pins σ H s) (r:RelV x v) (ty:tyV X.K T x H) :
  s.TypeIs v T∧∀ a,v=.ref a→∃ ob,s.heap.get? a=some ob∧ob.dict=none:=by
 cases x with
 | str z =>
  obtain ⟨t,rfl⟩:=r
  cases (show T="str" from ty)
  exact ⟨typeIs_str s z t,fun _ e=>nomatch e⟩
 | int i =>
  obtain ⟨t,rfl⟩:=r
  cases (show T="int" from ty)
  exact ⟨typeIs_int s i t,fun _ e=>nomatch e⟩
 | ref p =>
  cases r
  rcases ty with ⟨rfl,xs,hq⟩ | ⟨rfl,o,hk,hc,hd⟩ | ⟨rfl,hk⟩ | ⟨rfl,S,n,hk⟩
  ·
   obtain ⟨its,_,pl,_⟩:=I.list hq
   refine ⟨pl.isList.typeIs,fun a e=>?_⟩
   cases e
   obtain ⟨o,n,e,c,hd,_⟩:=pl
   exact ⟨o,e,hd⟩
  ·
   refine ⟨⟨o,I.kIn p o hk,hc⟩,fun a e=>?_⟩
   cases e
   exact ⟨o,I.kIn _ o hk,hd⟩
  ·
   have z:∃ o,s.heap.get? p=some o∧o.ExactDict:=by
    rcases hk with ⟨kvs,hk⟩ | ⟨kvs,hk⟩
    ·
     obtain ⟨_,_,_,_,o,_,_,e,ex,_⟩:=I.hok p _ hk
     exact ⟨o,e,ex⟩
    ·
     obtain ⟨_,_,_,_,o,_,_,e,ex,_⟩:=I.hok p _ hk
     exact ⟨o,e,ex⟩
   obtain ⟨o,e,ex⟩:=z
   refine ⟨⟨o,e,ex.1⟩,fun a e2=>?_⟩
   cases e2
   exact ⟨o,e,ex.2.1⟩
  ·
   obtain ⟨o,_,_,_,e,ex,_⟩:=I.hok p _ hk
   refine ⟨⟨o,e,ex.1⟩,fun a e2=>?_⟩
   cases e2
   exact ⟨o,e,ex.2.1⟩
 | _=>exact False.elim ty
def tBM (K:PySem.W.Frag) (T:String) (r:V→List V→Hp→VK→Prop) (to:TE) (t:TA):TE:=fun σ H Q=>to σ H fun x H1=>tyV K T x H1∧t σ H1 fun xs H2=>r x xs H2 Q
variable {o e:Expr} {es:List Expr} {to:TE} {t:TA} {name:Str} {apos cpos:Pos} {T id:String} {r:V→List V→Hp→VK→Prop}
theorem pe_bm (pa:PlainAttrs T) (slot:Slot T name id) (hty:typeOf (.builtin id)=pure (.type "method_descriptor")) (hm:MtR X id r) (ho:PE X o to) (ha:PA X (e::es) t)
  (hbase:attributeBase o name X.env (eval o X.env)=eval o X.env:=by rfl)
  (hfew:((backTo cpos (starEach (e::es) X.env)).all (fun x=>!x.1) && (backToKw cpos (keywordEach [] X.env)).all (fun x=>x.1.isSome)
   && decide ((e::es).length+([]:List Keyword).length+(if ([]:List Keyword).isEmpty then 0 else 1) < 30))=true:=by rfl)
  (hline:(apos.endLine == cpos.line)=true:=by rfl) (hs:starEach (e::es) X.env=(false,eval e X.env)::starEach es X.env:=by rfl) (hplain:(backTo cpos (starEach es X.env)).any (·.1)=false:=by rfl) :
  PE X (.Call (.Attribute o name apos) (e::es) [] cpos) (tBM X.K T r to t):=by
 intro pins s σ H Q I h
 refine wpAny_Call_method_late hbase hfew hline rfl (thn (ho pins s σ H _ I h) fun v s1 ⟨x,H1,I1,r1,ty,q1⟩=>?_)
 obtain ⟨h1,h2⟩:=tyV_is I1 r1 ty
 refine ⟨T,id,pa,slot,hty,h1,h2,?_⟩
 have hA:=ha cpos pins s1 σ H1 _ I1 q1
 rw [hs] at hA ⊢
 refine Calls.callWith_builtin (by show (false || (backTo cpos (starEach es X.env)).any (·.1))=false; rw [hplain] <;> rfl) (Calls.evalArgs_plain ?_)
 exact thn hA fun us s2 ⟨vs,H2,I2,r2,q2⟩=>hm pins s2 σ H2 x vs v us Q I2 r1 r2 q2
/- xs.append(e),list.index on a module's tuple .. are MtR facts of 06m -/
end
end L2
namespace L2
open PySem PySem.Spec PyProof.Rows
def MtM (X:Cx) (id:String) (r:V→List V→Hp→VK→Prop):Prop :=
 ∀ (pins:List (Addr×Obj)) (s:Shared) (σ:St) (H:Hp) (x:V) (xs:List V) (v:Value) (us:List Value) (Q:VK),Inv X pins σ H s→RelV x v→Vals xs us→r x xs H Q →
  wpAny (model X.prog X.w) X.A (call (.builtin id) (v::us)) (EP X pins σ Q) X.xe s
theorem Vals.one:∀ {x:V} {us:List Value},Vals [x] us→∃ u,us=[u]∧RelV x u
 | _,_,.cons r .nil=>⟨_,rfl,r⟩
theorem Vals.two:∀ {x y:V} {us:List Value},Vals [x,y] us→∃ u v,us=[u,v]∧RelV x u∧RelV y v
 | _,_,_,.cons r (.cons q .nil)=>⟨_,_,rfl,r,q⟩
theorem Vals.zero:∀ {us:List Value},Vals [] us→us=[]
 | _,.nil=>rfl
theorem Vals.dropLast {xs:List V} {us:List Value} (h:Vals xs us):Vals xs.dropLast us.dropLast:=by
 induction h with
 | nil=>exact .nil
 | cons r t ih =>
  cases t with
  | nil=>exact .nil
  | cons q t'=>exact .cons r ih
theorem Vals.reverse {xs:List V} {us:List Value} (h:Vals xs us):Vals xs.reverse us.reverse:=by
 induction h with
 | nil=>exact .nil
 | cons r t ih=>rw [List.reverse_cons,List.reverse_cons]; exact Vals.append ih (.cons r .nil)
section
variable {X:Cx} {pins:List (Addr×Obj)} {σ:St} {H:Hp} {s:Shared} {l b:Addr} {xs ys zs:List V}
theorem Inv.lset {its its':List Value} {n:Nat} {f:Array Value→Array Value} {t':Nat} (I:Inv X pins σ H s) (hH:H l=some (.lst xs))
  (e:s.heap.get? l=some { cls:=.type "list",data:=.seq its.toArray n }) (hf:f its.toArray=its'.toArray) (hv:Vals ys its') (hz:ys.length≤sizeLine) :
  Inv X pins σ (upd H l (.lst ys)) { s with heap:=s.heap.update l (Obj.mapSeq f),toks:=t' }:=by
 have q:=PySem.IsL.update e f
 rw [hf] at q
 refine I.write (x:=l) (e:=l) (by rw [hH]; exact trivial) (.inl rfl) (fun b' u hb hu=>(Heap.get?_update_other s.heap (Obj.mapSeq f) (Ne.symm hb)).trans hu) ⟨_,q⟩ ?_
 exact ⟨hz,its',_,hv,q⟩
theorem Inv.lnew {its:List Value} {t':Nat} (I:Inv X pins σ H s) (hv:Vals ys its) (hz:ys.length≤sizeLine) :
  Inv X pins σ (upd H s.heap.objs.size (.lst ys)) { s with heap:=s.heap.push { cls:=.type "list",data:=.seq its.toArray },toks:=t' } :=
 I.laid (fun _ _ q=>Heap.get?_push_of_some _ q) (Nat.le_refl _) ⟨hz,its,0,hv,Heap.get?_push_size _ rfl⟩
theorem Inv.fresh (I:Inv X pins σ H s):H s.heap.objs.size=none:=I.hok.fresh (Nat.le_refl _)
theorem Inv.lstM (I:Inv X pins σ H s) (hH:H l=some (.lst xs)):xs.length≤sizeLine∧∃ (its:List Value) (n:Nat),Vals xs its∧xs.length=its.length∧s.heap.get? l=some { cls:=.type "list",data:=.seq its.toArray n }:=by
 obtain ⟨z,its,n,r,e⟩:=I.hok l _ hH
 exact ⟨z,its,n,r,r.length,e⟩
end
section
variable {X:Cx}
def rAppend:V→List V→Hp→VK→Prop:=fun x vs H Q=>∃ l xs y,x=.ref l∧vs=[y]∧H l=some (.lst xs)∧xs.length < sizeLine∧Q .non (upd H l (.lst (xs++[y])))
theorem mt_append:MtM X "list.append" rAppend:=by
 intro pins s σ H x vs v us Q I rx rv h
 obtain ⟨l,xs,y,rfl,rfl,hH,hz,q⟩:=h
 cases rx
 obtain ⟨u,rfl,ru⟩:=rv.one
 obtain ⟨z,its,n,r,hl,e⟩:=I.lstM hH
 refine call_meets F.slot_list_append ⟨_,e,rfl⟩ F.entry_list_append (F.args_list_append_2 _ _) (PySem.list_append l its.toArray n u (by rw [List.size_toArray]; omega)) ⟨e,?_⟩
 refine ⟨.non,_,I.lset (its':=its++[u]) hH e (by simp) (r.append (.cons ru .nil)) ?_,rfl,q⟩
 rw [List.length_append,List.length_singleton]
 omega
end
section
variable {prog:Program} {w:World} {A:Around} {E:Value→Shared→Prop} {s:Shared}
end
section
variable {X:Cx}
end
end L2
namespace Att
open PySem PySem.W PySem.Calls PyProof.Rows
theorem ints_of_wellAll {P:Params} {h:Heap}:∀ (ns:List Int) (vs:List Value),WellAll P h vs (ns.map WData.int)→IntsAre vs ns:=by
 intro ns
 induction ns with
 | nil =>
  intro vs w
  rw [List.map_nil] at w
  cases w
  exact .nil
 | cons n ns ih =>
  intro vs w
  rw [List.map_cons] at w
  cases w with
  | cons a b =>
   cases a
   exact .cons _ _ (ih _ b)
theorem script_of {l:OpenLaw} {n:Nat} (hn:l.most=some n) {P:Params} {h:Heap} {args:List WData} {vals:List Value}
  (hpre:l.row.toRowW.claim.pre args=true) (hwl:WellAll P h vals args) :
  ∃ a vs ns,vals=[Value.ref a]∧args=[WData.list (ns.map WData.int)]∧h.get? a=some { cls:=.type "list",data:=.seq vs.toArray }∧IntsAre vs ns∧ns.length≤n:=by
 have hsh:WShape.hasAll [] args [.list .int]=true:=(pre_splitW hpre).1
 have hc:l.pre.holds [] { args:=args }=true:=(pre_splitW hpre).2
 obtain ⟨d,r,rfl,h1,h2⟩:=hasAllW_cons hsh
 obtain rfl:=hasAllW_nil h2
 obtain ⟨xs,rfl,h3⟩:=hasW_list h1
 obtain ⟨ns,rfl⟩:=items_int h3
 have hlen:ns.length≤n:=by
  unfold OpenLaw.pre at hc
  have h4:(WTm.not (.lt (.lit (.int (n:Int))) (.len (.arg 0)))).holds [] { args:=[.list (ns.map .int)] }=true:=by
   have h4:=(holds_andW hc).1
   rw [hn] at h4
   exact h4
  have h5:=condW_of h4 (w_not (w_lt w_lit (w_len_list (w_arg rfl))))
  rw [List.length_map] at h5
  refine Nat.le_of_not_lt fun q=>?_
  have q':(n:Int) < ((ns.length:Nat):Int):=by omega
  first
   | (rw [decide_eq_true q'] at h5; exact absurd h5 (by decide))
   | (simp at h5; omega)
 cases hwl with
 | cons w1 w2 =>
  cases w2
  cases w1 with
  | list ho hall=>exact ⟨_,_,ns,rfl,rfl,ho,ints_of_wellAll ns _ hall,hlen⟩
theorem post_true (l:OpenLaw) (args:List WData):l.row.toRowW.claim.post args (.bool true) args=true :=
 postW_of (r:=l.row.toRowW) (X:=(true == true))
  (show WShape.has [] (.bool true) .bool=true by first | rfl | decide | simp [WShape.has,WShape.arms,WShape.armsAll])
  (show (WTm.eq .res (.lit (.bool true))).value [] { args:=args,res:=some (.bool true),after:=args }=some (.bool (true == true)) from w_eq_bool (w_res rfl) w_lit) rfl
theorem attach_call {l:OpenLaw} {n:Nat} {q:Program} {loose:List Str} {XP:(Str→Option Value)→Heap→Prop} {YP:World→Heap→Prop} {d:DefRec}
  (hn:l.most=some n) (hdf:d.params.defaults=[])
  (call:∀ (w:World) (s₀ s₁:Shared) (mg mb:Str→Option Value) (fa:Addr) (o:Obj) (pm cd doc:Value) (a:Addr) (vs:List Value) (ns:List Int),
   Ground q loose [] XP w s₀ mg mb s₁.heap→YP w s₁.heap →
   s₁.heap.get? fa=some o→o.data=.func (docDef d.name d.params d.body d.scope pm cd doc)→s₁.heap.CodeRec cd d.name→mg d.name=some (.ref fa) →
   s₁.heap.get? a=some { cls:=.type "list",data:=.seq vs.toArray }→IntsAre vs ns→ns.length≤n→s₁.gens=#[] →
   codeAny (model l.prog w) callerA (.call (.ref fa) ⟨[.ref a],[]⟩) (fun r s'=>r=.ok (.ret (.bool true))∧OldK s₁.heap s'.heap∧s'.os=s₁.os∧AllBare s'.gens) s₁) :
  WalkO q loose XP YP l.row.toRowW d [] (fun f vs=>PySem.call f vs):=by
 intro w s₀ s₁ mg mb G Y fa o pm cd doc dV kV ho hd hcd hD hmg hg args vals as hpre hlay hrd hwl hlo
 obtain rfl:dV=.none:=Dflts.none hD hdf
 obtain rfl:kV=.none:=Dflts.noKw hD
 obtain ⟨a,vs,ns,rfl,rfl,hobj,hints,hlen⟩:=script_of hn hpre hwl
 refine enter_call (codeAny_mono (call w s₀ s₁ mg mb fa o pm cd doc a vs ns G Y ho (fd_plain hd) hcd hmg hobj hints hlen hg) fun r s' hq=>?_)
 obtain ⟨rfl,h2,h3,h4⟩:=hq
 exact ⟨.inl ⟨.bool true,.bool true,[],rfl,fun _=>rfl,.bool true,post_true l _,fun _=>⟨List.Pairwise.nil,fun _ hm=>(nomatch hm)⟩⟩,h2,h3,h4⟩
section
variable {prog:Program} {w:World} {A:Around} {E:Value→Shared→Prop} {s:Shared} {K:Frag}
def ledger (h:Heap) (L d:Addr):List (Addr×Obj):=(List.range h.objs.size).filterMap fun a=>if a=L∨a=d then none else (h.get? a).map fun o=>(a,o)
end
end Att
namespace L2
open PySem PySem.Spec PyProof.Rows
theorem vals_ints:∀ {vs:List Value} {ns:List Int},IntsAre vs ns→Vals (ns.map V.int) vs
 | _,_,.nil=>.nil
 | _,_,.cons n t h=>.cons ⟨t,rfl⟩ (vals_ints h)
def Only (H:Hp):Prop:=∀ b,H b=none∨(∃ o xs,H b=some (.frz o (.lst xs)))∨∃ q,H b=some (.tbl q)
def tabsK (K:PySem.W.Frag):List (Addr×Str):=lamNames.filterMap fun x=>(PySem.W.tabIn K x).map fun p=>(p.2,lamQ x)
def tabsOk (K:PySem.W.Frag):Bool:=decide ((tabsK K).map (·.1)).Nodup && (tabsK K).all fun p=>(K.lookup p.1).isNone
theorem mem_tabsK {K:PySem.W.Frag} {P:Addr} {q:Str} (h:(P,q)∈tabsK K):∃ x∈lamNames,∃ c,PySem.W.tabIn K x=some (c,P)∧q=lamQ x:=by
 obtain ⟨x,hx,e⟩:=List.mem_filterMap.mp h
 cases z:PySem.W.tabIn K x with
 | none=>rw [z] at e; cases e
 | some p=>rw [z] at e; cases e; exact ⟨x,hx,p.1,z,rfl⟩
theorem mem_of_lookup' {α β:Type} [BEq α] [LawfulBEq α]:∀ {l:List (α×β)} {a:α} {b:β},l.lookup a=some b→(a,b)∈l
 | [],_,_,h=>nomatch h
 | (x,y)::r,a,b,h=>by
  rw [List.lookup_cons] at h
  cases hb:a == x with
  | true=>rw [hb] at h; cases h; rw [eq_of_beq hb]; exact .head _
  | false=>rw [hb] at h; exact .tail _ (mem_of_lookup' h)
theorem lookup_of_nodup {α β:Type} [BEq α] [LawfulBEq α]:∀ {l:List (α×β)} {a:α} {b:β},(l.map (·.1)).Nodup→(a,b)∈l→l.lookup a=some b
 | [],_,_,_,h=>nomatch h
 | (x,y)::r,a,b,nd,h=>by
  rw [List.map_cons,List.nodup_cons] at nd
  rw [List.lookup_cons]
  rcases List.mem_cons.mp h with e | h
  ·
   cases e; simp
  ·
   have:a≠x:=fun z=>nd.1 (z ▸ List.mem_map_of_mem (f:=(·.1)) h)
   rw [show (a == x)=false from beq_false_of_ne this]
   exact lookup_of_nodup nd.2 h
theorem tabIn_some {K:PySem.W.Frag} {x:Str} {c P:Addr} (h:PySem.W.tabIn K x=some (c,P)):K.lookup c≠none:=by
 unfold PySem.W.tabIn at h
 split at h
 ·
  split at h
  ·
   split at h
   ·
    split at h
    ·
     rename_i hco
     split at h
     ·
      cases h; intro z; rw [hco] at z; cases z
     ·
      cases h
    ·
     cases h
   ·
    cases h
  ·
   cases h
 ·
  cases h
theorem law_call {P:Program} {w:World} {K:PySem.W.Frag} {mg mb:Str→Option Value} {CX:CXT} {k:Nat} {fa a:Addr} {fd:FuncData} {x:Str} {sp:Sp} {s₁:Shared} {vs:List Value} {ns:List Int}
  (KX:K.In s₁.heap) (hns:s₁.heap.Ns mainGlobals mg) (hb:s₁.heap.Ns builtinsNs mb) (hbb:∀ x:Str,x≠"__name__"→mb x=bootBuiltins x) (hlim:s₁.heap.NoLimit) (hsys:∃ mm,s₁.heap.Ns sysModules mm) (hbm:BMain mg s₁.heap) (hto:tabsOk K=true)
  (htb:∀ x∈lamNames,∀ c P,PySem.W.tabIn K x=some (c,P)→PySem.W.CodeHd s₁.heap c P∧s₁.heap.get? P=some (PySem.W.tabObj #[])) (hg:s₁.gens=#[])
  (ha:s₁.heap.get? a=some { cls:=.type "list",data:=.seq vs.toArray }) (hi:IntsAre vs ns) (hl:ns.length≤sizeLine) (hr:Room k callerA)
  (F:∀ base:Heap,K.In base→base.Ns mainGlobals mg→FnOk P w K mg base CX k fa fd [x] sp) (hbind:∀ (s:Shared) (u:Value),BindsTo s fd ⟨[u],[]⟩ [(x,u)])
  (hsp:∀ H:Hp,Only H→SqL K H a (ns.map V.int)→sp [.ref a] H (fun v _=>v=.bl true) fun _ _ _=>False)
  (hCX:∀ H e s',CX [] H s₁ (fun _ _ _=>False) e s'→False) :
  codeAny (model P w) callerA (.call (.ref fa) ⟨[.ref a],[]⟩) (fun r s'=>r=.ok (.ret (.bool true))∧OldK s₁.heap s'.heap∧s'.os=s₁.os∧AllBare s'.gens) s₁:=by
 have rv:=vals_ints hi
 have lenV:=hi.length
 obtain ⟨nd,kn⟩:=Bool.and_eq_true_iff.mp hto
 have nd:=of_decide_eq_true nd
 have tabAt:∀ {b:Addr} {q:Str},(tabsK K).lookup b=some q→PySem.isCodeTable s₁.heap b∧s₁.heap.get? b=some (PySem.W.tabObj #[])∧K.lookup b=none:=fun {b q} e=>by
  have hm:(b,q)∈tabsK K:=mem_of_lookup' e
  obtain ⟨x,hx,c,e1,_⟩:=mem_tabsK hm
  obtain ⟨h1,h2⟩:=htb x hx c b e1
  refine ⟨(h1.tab h2).isCodeTable,h2,?_⟩
  have:=List.all_eq_true.mp kn (b,q) hm
  simpa using this
 have core:∀ H:Hp,Only H→SqL K H a (ns.map V.int)→HOk P w H s₁.heap→(∀ b,H b≠none→b=a∨∃ q,H b=some (.tbl q)∧(tabsK K).lookup b=some q)→(∀ b,H b≠none→K.lookup b=none)→Tbs K H →
   codeAny (model P w) callerA (.call (.ref fa) ⟨[.ref a],[]⟩) (fun r s'=>r=.ok (.ret (.bool true))∧OldK s₁.heap s'.heap∧s'.os=s₁.os∧AllBare s'.gens) s₁:=by
  intro H hO hS hok hA hK hT
  have base_of:∀ {b:Addr} {o:Obj},s₁.heap.get? b=some o→H b=none→(hidT s₁.heap H).get? b=some o:=fun e n=>hidT_get e n
  have noB:∀ {b:Addr} {o:Obj},s₁.heap.get? b=some o→(∀ us n,o.data≠.seq us n)→(∀ us,o.data≠.fields us)→H b=none:=fun {b o} e d1 d2=>by
   cases q:H b with
   | none=>rfl
   | some u =>
    rcases hA b (by rw [q]; simp) with e' | ⟨z,_,e'⟩
    ·
     subst e'
     rw [ha] at e; cases e
     exact absurd rfl (d1 _ _)
    ·
     rw [(tabAt e').2.1] at e; cases e
     exact absurd rfl (d2 _)
  have noA:∀ {b:Addr} {o:Obj} {es:Array DictEntry} {ep:Nat},s₁.heap.get? b=some o→o.data=.dict es ep→H b=none:=fun {b o es ep} e d =>
   noB e (fun us n z=>by rw [d] at z; cases z) fun us z=>by rw [d] at z; cases z
  have nsK:∀ {b:Addr} {m:Str→Option Value},s₁.heap.Ns b m→(hidT s₁.heap H).Ns b m:=fun {b m} ⟨o,es,ep,e,d,r⟩=>⟨o,es,ep,base_of e (noA e d),d,r⟩
  have hKb:K.In (hidT s₁.heap H):=fun b o e=>base_of (KX b o e) (by
   cases q:H b with
   | none=>rfl
   | some u=>rw [hK b (by rw [q]; simp)] at e; cases e)
  have hM:Mod K mg (hidT s₁.heap H):=⟨hKb,nsK hns,⟨mb,nsK hb,hbb⟩,let ⟨mc,h1,h2⟩:=hlim; ⟨mc,nsK h1,h2⟩,let ⟨mm,h1⟩:=hsys; ⟨mm,nsK h1⟩,by
   obtain ⟨bm,ob,b1,b2,b3,b4,b5,b6⟩:=hbm
   exact ⟨bm,ob,b1,b2,base_of b3 (noB b3 (fun us n z=>by rw [b6] at z; cases z) fun us z=>by rw [b6] at z; cases z),b4,b5,b6⟩,fun x hx c P e=>by
   obtain ⟨⟨o,vs,file,tf,flags,tg,inF,text,tt,e1,r⟩,_⟩:=htb x hx c P e
   exact ⟨o,vs,file,tf,flags,tg,inF,text,tt,base_of e1 (by
    cases q:H c with
    | none=>rfl
    | some u=>exact absurd (hK c (by rw [q]; simp)) (tabIn_some e)),r⟩⟩
  have e0:Env0 P w K mg (hidT s₁.heap H) callerA [] s₁ H:=⟨rfl,hM,fun b o e=>of_hidT e,Nat.le_of_eq (hidT_size _ _),trivial,fun b hb=>absurd (show b∈([]:List Addr) from hb) (by simp),hok,.of_eq hg,hT⟩
  refine codeAny_mono ((F _ hKb (nsK hns)).run callerA [] s₁ H ⟨[.ref a],[]⟩ [.ref a] [.ref a] _ _ hr e0 (hbind s₁ (.ref a)) (.cons rfl .nil) (hsp H hO hS)) fun r s' h=>?_
  cases r with
  | error e=>exact (hCX H e s' h).elim
  | ok fl =>
   cases fl with
   | next=>exact False.elim h
   | brk=>exact False.elim h
   | cont=>exact False.elim h
   | ret u =>
    obtain ⟨v,H',os,bare,un,hok',r',q⟩:=h
    have q':v=.bl true:=q
    subst q'
    obtain rfl:u=Value.bool true:=r'
    have fin:∀ b o,s₁.heap.get? b=some o→s'.heap.get? b=some o∨(PySem.isCodeTable s₁.heap b∧o=PySem.W.tabObj #[]∧∃ ps,s'.heap.get? b=some (PySem.W.tabObj ps)):=fun b o e=>by
     cases q:H b with
     | none=>exact .inl (un.keep b o e q (by intro z; exact absurd (show b∈([]:List Addr) from z) (by simp)) (by simp))
     | some u =>
      rcases hO b with z | ⟨ob,xs,z⟩ | ⟨t,z⟩
      ·
       rw [q] at z; cases z
      ·
       have z2:=un.frzs b ob _ z
       obtain ⟨e1,_⟩:=hok b _ z
       obtain ⟨e2,_⟩:=hok' b _ z2
       rw [e] at e1; cases e1
       exact .inl e2
      ·
       rcases hA b (by rw [q]; simp) with e' | ⟨t2,_,e'⟩
       ·
        subst e'
        obtain ⟨ps,e1,_⟩:=hok b _ z
        rw [ha] at e1; cases e1
       ·
        obtain ⟨ps,e2,_⟩:=hok' b _ (un.tbls b _ z)
        obtain ⟨t1,t2,_⟩:=tabAt e'
        rw [e] at t2; cases t2
        exact .inr ⟨t1,rfl,ps,e2⟩
    refine ⟨rfl,⟨fun b o e=>?_,fun b o e=>?_⟩,os,bare⟩
    ·
     rcases fin b o e with z | ⟨t,rfl,ps,z⟩
     ·
      exact .inl z
     ·
      exact .inr (.inl ⟨t,rfl,#[],ps,rfl,by rw [Array.empty_append]; exact z⟩)
    ·
     rcases fin b o e with z | ⟨t,_,ps,z⟩
     ·
      exact ⟨o,z⟩
     ·
      exact ⟨_,z⟩
 have tbsOf:∀ {H:Hp},(∀ b q,(tabsK K).lookup b=some q→H b=some (.tbl q))→Tbs K H:=fun {H} h x hx c P e=>h P _ (lookup_of_nodup nd (List.mem_filterMap.mpr ⟨x,hx,by rw [e]; rfl⟩))
 have okT:∀ {H:Hp} {b:Addr} {q:Str},(tabsK K).lookup b=some q→ObjOk P w H s₁.heap b (.tbl q):=fun {H b q} e=>⟨#[],(tabAt e).2.1,trivial,fun pos cv z=>by simp [codeAmong] at z⟩
 have na:∀ q,(tabsK K).lookup a≠some q:=fun q z=>by
  have:=(tabAt z).2.1
  rw [ha] at this; cases this
 cases hk:K.lookup a with
 | some o =>
  have e:=KX a o hk
  rw [ha] at e
  cases e
  refine core (fun b=>((tabsK K).lookup b).map .tbl) (fun b=>?_) (.inr ⟨_,vs.toArray,_,hk,rfl,rfl,rfl,by rw [List.size_toArray,lenV]; exact hl,by simpa using rv⟩) (fun b u z=>?_) (fun b z=>?_) (fun b z=>?_) (tbsOf fun b q e=>by show Option.map _ _=_; rw [e]; rfl)
  ·
   show Option.map HO.tbl ((tabsK K).lookup b)=none∨_
   cases q:(tabsK K).lookup b with
   | none=>exact .inl rfl
   | some t=>exact .inr (.inr ⟨t,by show Option.map _ _=_; rw [q]; rfl⟩)
  ·
   have z':Option.map HO.tbl ((tabsK K).lookup b)=some u:=z
   cases q:(tabsK K).lookup b with
   | none=>rw [q] at z'; cases z'
   | some t=>rw [q] at z'; cases z'; exact okT q
  ·
   have z':Option.map HO.tbl ((tabsK K).lookup b)≠none:=z
   cases q:(tabsK K).lookup b with
   | none=>rw [q] at z'; exact absurd rfl z'
   | some t=>exact .inr ⟨t,rfl,rfl⟩
  ·
   have z':Option.map HO.tbl ((tabsK K).lookup b)≠none:=z
   cases q:(tabsK K).lookup b with
   | none=>rw [q] at z'; exact absurd rfl z'
   | some t=>exact (tabAt q).2.2
 | none =>
  have at_a:∀ b,(if b=a then some (HO.frz { cls:=.type "list",data:=.seq vs.toArray } (.lst (ns.map V.int))) else ((tabsK K).lookup b).map .tbl)≠none→b=a∨∃ q,(tabsK K).lookup b=some q:=fun b z=>by
   by_cases hb:b=a
   ·
    exact .inl hb
   ·
    rw [if_neg hb] at z
    cases q:(tabsK K).lookup b with
    | none=>rw [q] at z; exact absurd rfl z
    | some t=>exact .inr ⟨t,rfl⟩
  have tabA:∀ b q,(tabsK K).lookup b=some q→(if b=a then some (HO.frz { cls:=.type "list",data:=.seq vs.toArray } (.lst (ns.map V.int))) else ((tabsK K).lookup b).map .tbl)=some (.tbl q):=fun b q e=>by
   rw [if_neg (fun (z:b=a)=>na q (by rw [← z]; exact e)),e]; rfl
  refine core (fun b=>if b=a then some (.frz { cls:=.type "list",data:=.seq vs.toArray } (.lst (ns.map V.int))) else ((tabsK K).lookup b).map .tbl) (fun b=>?_) (.inl (.inr ⟨{ cls:=.type "list",data:=.seq vs.toArray },if_pos rfl⟩)) (fun b u z=>?_) (fun b z=>?_) (fun b z=>?_) (tbsOf fun b q e=>tabA b q e)
  ·
   by_cases hb:b=a
   ·
    exact .inr (.inl ⟨_,_,if_pos hb⟩)
   ·
    cases q:(tabsK K).lookup b with
    | none=>exact .inl (by show ite _ _ _=_; rw [if_neg hb,q]; rfl)
    | some t=>exact .inr (.inr ⟨t,tabA b t q⟩)
  ·
   by_cases hb:b=a
   ·
    have z':=(if_pos hb).symm.trans z
    cases z'
    subst hb
    exact ⟨ha,by rw [List.length_map]; exact hl,vs,_,rv,ha⟩
   ·
    have z':=(if_neg hb).symm.trans z
    cases q:(tabsK K).lookup b with
    | none=>rw [q] at z'; cases z'
    | some t=>rw [q] at z'; cases z'; exact okT q
  ·
   rcases at_a b z with e | ⟨q,e⟩
   ·
    exact .inl e
   ·
    exact .inr ⟨q,tabA b q e,e⟩
  ·
   rcases at_a b z with e | ⟨q,e⟩
   ·
    rw [e]; exact hk
   ·
    exact (tabAt e).2.2
end L2
namespace L2
open PySem PySem.Spec PyProof.Rows
theorem walk_of {l:PySem.W.OpenLaw} {n k:Nat} {q:Program} {loose:List Str} {XP:(Str→Option Value)→Heap→Prop} {YP:World→Heap→Prop} {d:DefRec} {K:Params→PySem.W.Frag} {CX:World→CXT} {sp:World→Sp} {x:Str}
  (hn:l.most=some n) (hq:importsNone q=true) (hn2:n≤sizeLine) (hdf:d.params.defaults=[]) (hr:Room k callerA)
  (hY:∀ (w:World) (h:Heap),YP w h→(K w.params).In h) (hto:∀ w:World,tabsOk (K w.params)=true) (hrc:∀ (w:World),∀ x∈lamNames,PySem.W.tabIn (K w.params) x=none∨((recsOf q).find? fun e=>e.name == x).isSome=true)
  (F:∀ (w:World) (mg:Str→Option Value) (fa:Addr) (h:Heap),(K w.params).In h→h.Ns mainGlobals mg→mg d.name=some (.ref fa) →
   ∃ fd:FuncData,(∀ (s:Shared) (u:Value),BindsTo s fd ⟨[u],[]⟩ [(x,u)]) ∧
    ∀ base:Heap,(K w.params).In base→base.Ns mainGlobals mg→FnOk l.prog w (K w.params) mg base (CX w) k fa fd [x] (sp w))
  (hsp:∀ (w:World) (H:Hp) (a:Addr) (ns:List Int),ns.length≤n→Only H→SqL (K w.params) H a (ns.map V.int)→sp w [.ref a] H (fun v _=>v=.bl true) fun _ _ _=>False)
  (hCX:∀ (w:World) (H:Hp) (s:Shared) (e:Value) (s':Shared),CX w [] H s (fun _ _ _=>False) e s'→False) :
  PySem.W.WalkO q loose XP YP l.row.toRowW d [] (fun f vs=>PySem.call f vs):=by
 refine Att.attach_call hn hdf fun w s₀ s₁ mg mb fa o pm cd doc a vs ns G Y ho hd hcd hmg hobj hints hlen hg=>?_
 have KX:=hY w _ Y
 obtain ⟨fd,hb,hF⟩:=F w mg fa _ KX G.T.g hmg
 exact law_call KX G.T.g G.T.b G.T.builtins G.T.nolimit (let ⟨mm,h1,_⟩:=(G.T.seer hq).mods; ⟨mm,h1⟩) (let ⟨bm,ob,b1,b2,b3,b4,b5,b6⟩:=G.T.bmain; ⟨bm,ob,b1,b2,b3,b4,b5,b6⟩) (hto w) (fun y hy c P e=>by
  rcases hrc w y hy with z | z
  ·
   rw [z] at e; cases e
  ·
   obtain ⟨d',hd'⟩:=Option.isSome_iff_exists.mp z
   exact PySem.W.tab_of G.T KX hd' e) hg hobj hints (Nat.le_trans hlen hn2) hr hF hb (fun H hO hS=>hsp w H a ns hlen hO hS) fun H e s'=>hCX w H s₁ e s'
end L2
namespace L2
open PySem PySem.Spec PyProof.Rows
def defArgs (s:Stmt):Arguments:=match s with
 | .FunctionDef _ a _ _ _ _ _ _ _ _=>a
 | _=>{ posonlyargs:=[],args:=[],vararg:=none,kwonlyargs:=[],kw_defaults:=[],kwarg:=none,defaults:=[] }
def defBody (s:Stmt):List Stmt:=match s with
 | .FunctionDef _ _ b _ _ _ _ _ _ _=>b
 | _=>[]
def defScope (s:Stmt):Scope:=match s with
 | .FunctionDef _ _ _ _ _ _ sc _ _ _=>sc
 | _=>{ kind:=.function,names:=[],isGenerator:=false,isCoroutine:=false }
abbrev CX0:CXT:=fun _ _ _ _ _ _=>False
abbrev E0:XK:=fun _ _ _=>False
theorem pass0 {X:Cx}:Passes CX0 X E0:=fun _ _ _ _ _ _ _ h=>h.elim
structure Fun (K:PySem.W.Frag) (x qual:Str) (st:Stmt) (f:Addr) (fd:FuncData):Prop where
 ex:∃ (oc:Value) (od:Option Addr) (kV doc pm:Value) (an:Option Addr) (cdv ct:Value) (osl:Array (Option Value)),
  fd=PySem.W.fnOf x qual (defArgs st) (defBody st) (defScope st) .none kV doc pm an cdv ct∧K.lookup f=some ⟨oc,od,.func fd,osl⟩∧PySem.W.codeIn K cdv qual=true
 kp:PySem.W.keepIn K (.ref f)=true
section
variable {P:Program} {w:World} {K:PySem.W.Frag} {mg:Str→Option Value} {base:Heap}
theorem Fun.ok {x qual:Str} {st:Stmt} {f:Addr} {fd:FuncData} {N ps:List Str} {k:Nat} {sp:Sp} (F:Fun K x qual st f fd) (S:FnScope N ps (defScope st)) (len:∀ vs H Q E,sp vs H Q E→vs.length=ps.length)
  (hbody:∀ (cdv:Value) (A:Around) (outer:List Env) (s:Shared) (H:Hp) (vs:List V) (Q:VK) (E:XK),Room k (A.deeper (envOfC qual (defScope st) s.heap.objs.size f cdv))→sp vs H Q E →
   ∃ t,PSs (cxOf CX0 P w K mg base N qual (defScope st) f cdv A outer s H E).nox (defBody st) t∧t { nx:=fun _ H'=>Q .non H',rt:=Q } (start N vs) H):FnOk P w K mg base CX0 (k+1) f fd ps sp:=by
 obtain ⟨oc,od,kV,doc,pm,an,cdv,ct,osl,rfl,lk,hcd⟩:=F.ex
 refine fn_of lk hcd S len fun A outer s H vs Q E hr hsp=>?_
 obtain ⟨t,h,q⟩:=hbody cdv A outer s H vs Q E hr hsp
 exact ⟨t,h.nox,q⟩
theorem Fun.binds {x qual:Str} {st:Stmt} {f:Addr} {fd:FuncData} {ps:List Str} (F:Fun K x qual st f fd)
  (h:∀ (kV doc pm:Value) (an:Option Addr) (cdv ct:Value) (us:List Value),us.length=ps.length→bindArgs (PySem.W.fnOf x qual (defArgs st) (defBody st) (defScope st) .none kV doc pm an cdv ct) ⟨us,[]⟩=pure (ps.zip us)):Binds K fd ps []:=by
 obtain ⟨oc,od,kV,doc,pm,an,cdv,ct,osl,rfl,lk,hcd⟩:=F.ex
 exact .all (h kV doc pm an cdv ct)
theorem fun_mk {x qual:Str} {st:Stmt} {f:Addr} {oc:Value} {od an:Option Addr} {osl:Array (Option Value)} {kV doc pm cdv ct:Value} (l:K.lookup f=some ⟨oc,od,.func (PySem.W.fnOf x qual (defArgs st) (defBody st) (defScope st) .none kV doc pm an cdv ct),osl⟩)
  (c:PySem.W.codeIn K cdv qual=true) (k:PySem.W.keepIn K (.ref f)=true):Fun K x qual st f (PySem.W.fnOf x qual (defArgs st) (defBody st) (defScope st) .none kV doc pm an cdv ct):=⟨⟨oc,od,kV,doc,pm,an,cdv,ct,osl,rfl,l,c⟩,k⟩
end
section
variable {X:Cx}
theorem pv (i:Nat) {x:Str} {pos:Pos} (hN:X.N[i]?=some x:=by rfl) (hv:Vis X.env.scope x:=by first | exact Or.inl rfl | exact Or.inr (Or.inl rfl) | exact Or.inr (Or.inr rfl)) (hd:(x == ("__debug__" : Str))=false:=by decide)
  (hcd:(x == ("__classdict__" : Str))=false:=by decide):PE X (.Name x pos) (tVar i):=pe_var hN hv hd hcd
end
def Same (H H':Hp):Prop:=∀ b o,H b=some o→H' b=some o
theorem Same.refl (H:Hp):Same H H:=fun _ _ h=>h
theorem Same.trans {H H1 H2:Hp} (a:Same H H1) (b:Same H1 H2):Same H H2:=fun c o h=>b c o (a c o h)
theorem Same.free {H H':Hp} (e:Same H H') {l:Addr} (h:H' l=Option.none):H l=Option.none:=by
 cases q:H l with
 | none=>rfl
 | some o =>
  rw [e l o q] at h
  cases h
theorem Same.seq {K:PySem.W.Frag} {H H':Hp} {a:Addr} {xs:List V} (e:Same H H') (h:SqL K H a xs):SqL K H' a xs:=by
 rcases h with (h | ⟨o,h⟩) | h
 ·
  exact .inl (.inl (e _ _ h))
 ·
  exact .inl (.inr ⟨o,e _ _ h⟩)
 ·
  exact .inr h
end L2
set_option maxHeartbeats 0
namespace L2
open PySem PySem.Spec
open Sem (wp)
theorem slot_fn_ga:Slot "function" "__getattribute__" "object.__getattribute__" :=
 .of (owner:="object") (n:="__getattribute__") (by rw [typeLookup_type,builtinLookup_eq_fast]; kernel_rfl) (by decide +kernel) (by decide +kernel) (by decide +kernel)
  (by first | exact .inl (by decide +kernel) | exact .inr (by decide +kernel)) (by rw [isSubtype_type]; kernel_rfl)
theorem entry_fn_ga:entryFor table "object.__getattribute__"=some Builtin.«object.__getattribute__»:=by
 first | exact F.entry_object_getattribute | exact entryFor_alias (id':="object.__getattribute__") (by kernel_rfl) (by first | rfl | decide +kernel) (by decide +kernel) (by kernel_rfl) | kernel_rfl
theorem args_fn_ga (a b:Value):argsOk "object.__getattribute__" ⟨[a,b],[]⟩:=by
 first | exact F.args_object_getattribute_2 a b | (unfold argsOk; kernel_rfl)
theorem lk_fn_class:typeLookup (.type "function") "__class__"=pure (some (.builtin "object.__class__")):=by rw [typeLookup_type,builtinLookup_eq_fast]; kernel_rfl
theorem sub_fn_class_owner:isSubtype (.type "function") (.type (".".intercalate ("object.__class__".cutAt '.').dropLast))=pure true:=by
 rw [F.owner_object_class,isSubtype_type]; kernel_rfl
section
variable {prog:Program} {w:World} {A:Around} {E:Value→Shared→Prop} {h:Heap} {g:Array GenState} {d:Drawn} {t:Nat} {os:OsState} {a:Addr} {o:Obj}
theorem class_get_fn {R:Result→Shared→Prop} (hx:h.get? a=some o) (hc:o.cls=.type "function") (hq:R (.ok (.ret (.type "function"))) ⟨h,g,d,t,os⟩) :
  codeAny (model prog w) A (.call (.builtin "getset_descriptor.__get__") ⟨[.builtin "object.__class__",.ref a,.type "function"],[]⟩) R ⟨h,g,d,t,os⟩:=by
 have hT:(⟨h,g,d,t,os⟩:Shared).TypeIs (.ref a) "function":=⟨_,hx,hc⟩
 have hT5:(⟨h,g,d,t,os⟩:Shared).TypeIs (.builtin "object.__class__") "getset_descriptor":=F.typeOf_object_class
 have f8:=sub_fn_class_owner
 refine codeAny_call_builtin F.slot_gs_get.plain F.entry_gs_get (F.slot_gs_get.check _ _ _ _ _ _ _ _ hT5 (F.args_gs_get _ _ _) ?_)
 repeat (any_goals (first | assumption | wp_step))
 refine ⟨Code.quiet_builtin _ (by decide +kernel),codeAny_builtin F.entry_object_class ?_⟩
 repeat (any_goals (first | assumption | wp_step))
theorem class_entry_fn {tk:Tok} {Q:PySem.Fin→Shared→Prop} (hx:h.get? a=some o) (hc:o.cls=.type "function") (hq:Q (.done (.ret (.type "function"))) ⟨h,g,d,t,os⟩) :
  wpAny (model prog w) A (Builtin.«object.__getattribute__» ⟨[.ref a,.str "__class__" tk],[]⟩) Q E ⟨h,g,d,t,os⟩:=by
 have hT:(⟨h,g,d,t,os⟩:Shared).TypeIs (.ref a) "function":=⟨_,hx,hc⟩
 have hT5:(⟨h,g,d,t,os⟩:Shared).TypeIs (.builtin "object.__class__") "getset_descriptor":=F.typeOf_object_class
 have f4:=lk_fn_class
 have f5:=F.typeOf_object_class
 have f6:=F.slot_gs_get.lookup
 have f7:=F.slot_gs_set.lookup
 repeat (any_goals (first | assumption | wp_step))
 refine class_get_fn hx hc ?_
 repeat (any_goals (first | assumption | wp_step))
theorem class_call_fn {tk:Tok} {R:Result→Shared→Prop} (hx:h.get? a=some o) (hc:o.cls=.type "function") (hq:R (.ok (.ret (.type "function"))) ⟨h,g,d,t,os⟩) :
  codeAny (model prog w) A (.call (.builtin "object.__getattribute__") ⟨[.ref a,.str "__class__" tk],[]⟩) R ⟨h,g,d,t,os⟩ :=
 codeAny_call_builtin slot_fn_ga.plain entry_fn_ga (slot_fn_ga.check _ _ _ _ _ _ _ _ (show (⟨h,g,d,t,os⟩:Shared).TypeIs (.ref a) "function" from ⟨_,hx,hc⟩) (args_fn_ga _ _) (class_entry_fn hx hc hq))
theorem class_by_fn {tk:Tok} {Q:Value→Shared→Prop} (hx:h.get? a=some o) (hc:o.cls=.type "function") (hq:Q (.type "function") ⟨h,g,d,t,os⟩):wpAny (model prog w) A (getAttrBy (.ref a) (.str "__class__" tk) false) Q E ⟨h,g,d,t,os⟩:=by
 have hT:(⟨h,g,d,t,os⟩:Shared).TypeIs (.ref a) "function":=⟨_,hx,hc⟩
 have f2:=slot_fn_ga.lookup
 have f3:=slot_fn_ga.bind (.ref a)
 repeat (any_goals (first | assumption | wp_step))
 refine class_call_fn hx hc ?_
 repeat (any_goals (first | assumption | wp_step))
theorem class_attr_fn {Q:Option Value→Shared→Prop} (hx:h.get? a=some o) (hc:o.cls=.type "function") (hq:Q (some (.type "function")) ⟨h,g,d,t+1,os⟩):wpAny (model prog w) A (getAttr? (.ref a) "__class__") Q E ⟨h,g,d,t,os⟩:=by
 unfold getAttr? getAttrBy?
 repeat (any_goals (first | assumption | with_reducible apply class_by_fn hx hc | wp_step))
end
theorem kitx_fn {K:PySem.W.Frag} {a:Addr}:PySem.W.KitX K (.ref a) (.type "function") (PySem.W.KitAt a "function"):=PySem.W.kitx_of PySem.W.kitAt_ty (fun {_ _ _ _ _ s} p k=>by obtain ⟨h,g,d,t,os⟩:=s; obtain ⟨o,h1,h2⟩:=p; exact class_attr_fn h1 h2 k)
end L2
namespace L2
open PySem PySem.Spec PyProof.Rows
inductive D where
 | non | bl (b:Bool) | int (i:Int) | str (x:Str) | tup (xs:List D) | lst (xs:List D) | dct (n:Nat) | exc (c:Str) (ns:List Str) (xs:List D) | fn (x:Str) (d:D)
def SqZ (K:PySem.W.Frag) (H:Hp) (a:Addr) (xs:List V):Prop :=
 (∃ o,H a=some (.frz o (.lst xs))) ∨
  ∃ (o:Obj) (its:Array Value) (n:Nat),K.lookup a=some o∧o.cls=.type "list"∧o.dict=none∧o.data=.seq its n∧its.size≤sizeLine∧Vals xs its.toList
theorem SqZ.l {K:PySem.W.Frag} {H:Hp} {a:Addr} {xs:List V} (h:SqZ K H a xs):SqL K H a xs:=by
 rcases h with ⟨o,h⟩ | h
 ·
  exact .inl (.inr ⟨o,h⟩)
 ·
  exact .inr h
def noIns:HO→Prop
 | .frz _ u=>noIns u
 | .ins _ _ _=>False
 | _=>True
def excStd (K:PySem.W.Frag) (c:Str) (C:Addr):Bool:=match PySem.W.clsIn K C,PySem.W.nsIn K mainGlobals "LoadError" with
 | some cd,some (some (.ref L))=>cd.name == c && cd.hasDict && cd.mro == [.ref C,.ref L,.type "ValueError",.type "Exception",.type "BaseException",.type "object"] && (PySem.W.clsIn K L).any (fun k=>k.name == ("LoadError" : Str)) &&
  PySem.W.findIn K (.ref C) "__getattribute__" == some (some (.builtin "BaseException.__getattribute__")) && PySem.W.findIn K (.ref C) "__getattr__" == some none && PySem.W.findIn K (.ref C) "__class__" == some (some (.builtin "object.__class__")) &&
  PySem.W.findIn K (.ref C) "__setattr__" == some (some (.builtin "object.__setattr__")) && PySem.W.typeIn K (.ref C) == some (.type "type") && PySem.W.nsIn K mainGlobals c == some (some (.ref C))
 | _,_=>false
def lamOf:List Stmt→Option (Arguments×Expr×Scope×Pos)
 | []=>none
 | st::r=>match lamOf r with
  | some l=>some l
  | none=>match st with
   | .Expr (.Call _ args _ _) _=>(match args.getLast? with
    | some (.Lambda p b sc pos)=>some (p,b,sc,pos)
    | _=>none)
   | .Return (some (.Call _ _ kws _)) _=>(match kws.getLast? with
    | some ⟨_,.Lambda p b sc pos,_⟩=>some (p,b,sc,pos)
    | _=>none)
   | _=>none
def lamIn (K:PySem.W.Frag) (x:Str):Option (Arguments×Expr×Scope×Pos):=match PySem.W.nsIn K mainGlobals x with
 | some (some (.ref f))=>(match K.lookup f with
  | some ⟨_,_,.func fd,_⟩=>(match fd.body with
   | .stmts b=>lamOf b
   | _=>none)
  | _=>none)
 | _=>none
def XF (H:Hp) (dx:Option Addr) (ns:List Str) (vs:List V):Prop:=(ns=[]∧vs=[]∧dx=none)∨∃ d od,dx=some d∧H d=some (.frz od (.xd (ns.zip vs)))∧ns.length=vs.length
mutual
inductive Rep (K:PySem.W.Frag) (H:Hp):V→D→Prop where
 | non:Rep K H .non .non
 | bl (b:Bool):Rep K H (.bl b) (.bl b)
 | int (i:Int):Rep K H (.int i) (.int i)
 | str (x:Str):Rep K H (.str x) (.str x)
 | tup {a:Addr} {vs:List V} {ds:List D} (h:SqT K H a vs) (r:Reps K H vs ds):Rep K H (.ref a) (.tup ds)
 | lst {a:Addr} {vs:List V} {ds:List D} (h:SqZ K H a vs) (r:Reps K H vs ds):Rep K H (.ref a) (.lst ds)
 | dct {a:Addr} {o:Obj} {kvs:List (Key×V)} (h:H a=some (.frz o (.dK kvs))):Rep K H (.ref a) (.dct kvs.length)
 | exc {a:Addr} {o:Obj} {u:HO} {c:Str} {C:Addr} {ns:List Str} {vs:List V} {ds:List D} (h:H a=some (.frz o u)) (hv:noIns u) (hc:o.cls=.ref C) (hn:PySem.W.notCls o=true) (hs:excStd K c C=true) (hq:∀ f∈ns,PySem.W.findIn K (.ref C) f=some none) (hf:XF H o.dict ns vs) (r:Reps K H vs ds):Rep K H (.ref a) (.exc c ns ds)
 | fn {f c c':Addr} {oc oq:Obj} {x y:Str} {pr:Arguments} {bd:Expr} {sc:Scope} {pos:Pos} {pm ctv u:Value} {v:V} {d:D} (hl:lamIn K x=some (pr,bd,sc,pos)) (hf:H f=some (.frz (PySem.W.kla_obj "<lambda>" (lamQ x) pr bd sc [(y,c)] pm c' ctv) (.own f)))
  (hq:H c'=some (.frz oq (.own c'))) (hc:CodeOb oq (lamQ x)) (hz:H c=some (.frz oc (.own c))) (hd:oc.data=.cell (some u)) (hv:RelV v u) (hm:(y,NameKind.free)∈sc.names) (r:Rep K H v d):Rep K H (.ref f) (.fn x d)
inductive Reps (K:PySem.W.Frag) (H:Hp):List V→List D→Prop where
 | nil:Reps K H [] []
 | cons {v:V} {d:D} {vs:List V} {ds:List D} (h:Rep K H v d) (t:Reps K H vs ds):Reps K H (v::vs) (d::ds)
end
def Pers:HO→Prop
 | .tup _=>True
 | .frz _ _=>True
 | .tbl _=>True
 | _=>False
def Pres (H H':Hp):Prop:=∀ b o,Pers o→H b=some o→H' b=some o
theorem SqT.pres {K:PySem.W.Frag} {H H':Hp} {a:Addr} {xs:List V} (p:Pres H H') (h:SqT K H a xs):SqT K H' a xs:=by
 rcases h with (h | ⟨o,h⟩) | h
 ·
  exact .inl (.inl (p _ _ True.intro h))
 ·
  exact .inl (.inr ⟨o,p _ _ True.intro h⟩)
 ·
  exact .inr h
theorem SqZ.pres {K:PySem.W.Frag} {H H':Hp} {a:Addr} {xs:List V} (p:Pres H H') (h:SqZ K H a xs):SqZ K H' a xs:=by
 rcases h with ⟨o,h⟩ | h
 ·
  exact .inl ⟨o,p _ _ True.intro h⟩
 ·
  exact .inr h
theorem XF.pres {H H':Hp} (p:Pres H H') {dx:Option Addr} {ns:List Str} {vs:List V} (h:XF H dx ns vs):XF H' dx ns vs:=by
 rcases h with h | ⟨d,od,e,h,l⟩
 ·
  exact .inl h
 ·
  exact .inr ⟨d,od,e,p _ _ True.intro h,l⟩
mutual
theorem Rep.pres {K:PySem.W.Frag} {H H':Hp} (p:Pres H H'):∀ {v:V} {d:D},Rep K H v d→Rep K H' v d
 | _,_,.non=>.non
 | _,_,.bl b=>.bl b
 | _,_,.int i=>.int i
 | _,_,.str x=>.str x
 | _,_,.tup h r=>.tup (h.pres p) (Reps.pres p r)
 | _,_,.lst h r=>.lst (h.pres p) (Reps.pres p r)
 | _,_,.dct h=>.dct (p _ _ True.intro h)
 | _,_,.exc h hv hc hn hs hq hf r=>.exc (p _ _ True.intro h) hv hc hn hs hq (hf.pres p) (Reps.pres p r)
 | _,_,.fn hl hf hq hc hz hd hv hm r=>.fn hl (p _ _ True.intro hf) (p _ _ True.intro hq) hc (p _ _ True.intro hz) hd hv hm (Rep.pres p r)
theorem Reps.pres {K:PySem.W.Frag} {H H':Hp} (p:Pres H H'):∀ {vs:List V} {ds:List D},Reps K H vs ds→Reps K H' vs ds
 | _,_,.nil=>.nil
 | _,_,.cons h t=>.cons (Rep.pres p h) (Reps.pres p t)
end
theorem Reps.length {K:PySem.W.Frag} {H:Hp}:∀ {vs:List V} {ds:List D},Reps K H vs ds→vs.length=ds.length
 | _,_,.nil=>rfl
 | _,_,.cons _ t=>by simp [Reps.length t]
theorem Reps.get {K:PySem.W.Frag} {H:Hp}:∀ {vs:List V} {ds:List D} {i:Nat} {d:D},Reps K H vs ds→ds[i]?=some d→∃ v,vs[i]?=some v∧Rep K H v d
 | _,_,_,_,.nil,e=>by simp at e
 | _,_,0,_,.cons h _,e=>by simp at e; subst e; exact ⟨_,rfl,h⟩
 | _,_,i+1,d,.cons _ t,e=>by
  obtain ⟨v,h1,h2⟩:=Reps.get (i:=i) (d:=d) t (by simpa using e)
  exact ⟨v,by simpa using h1,h2⟩
theorem Reps.set {K:PySem.W.Frag} {H:Hp} {v:V} {d:D} (r:Rep K H v d):∀ {vs:List V} {ds:List D} (i:Nat),Reps K H vs ds→Reps K H (vs.set i v) (ds.set i d)
 | _,_,_,.nil=>.nil
 | _,_,0,.cons _ t=>.cons r t
 | _,_,i+1,.cons h t=>.cons h (Reps.set r i t)
theorem Reps.append {K:PySem.W.Frag} {H:Hp}:∀ {vs us:List V} {ds es:List D},Reps K H vs ds→Reps K H us es→Reps K H (vs++us) (ds++es)
 | _,_,_,_,.nil,s=>s
 | _,_,_,_,.cons h t,s=>.cons h (Reps.append t s)
theorem Reps.take {K:PySem.W.Frag} {H:Hp}:∀ {vs:List V} {ds:List D} (n:Nat),Reps K H vs ds→Reps K H (vs.take n) (ds.take n)
 | _,_,0,_=>.nil
 | _,_,_+1,.nil=>.nil
 | _,_,n+1,.cons h t=>.cons h (Reps.take n t)
theorem Reps.drop {K:PySem.W.Frag} {H:Hp}:∀ {vs:List V} {ds:List D} (n:Nat),Reps K H vs ds→Reps K H (vs.drop n) (ds.drop n)
 | _,_,0,r=>r
 | _,_,_+1,.nil=>.nil
 | _,_,n+1,.cons _ t=>Reps.drop n t
theorem Reps.reverse {K:PySem.W.Frag} {H:Hp}:∀ {vs:List V} {ds:List D},Reps K H vs ds→Reps K H vs.reverse ds.reverse
 | _,_,.nil=>.nil
 | _,_,.cons h t=>by
  rw [List.reverse_cons,List.reverse_cons]
  exact (Reps.reverse t).append (.cons h .nil)
inductive L where
 | un | d (x:D) | own (a:Addr) (xs:List D) | bx (k:Option Addr) (ls:List L) | dic (a:Addr) (kvs:List (Key×D))
abbrev Ev:=List L
mutual
def ownsL:L→List Addr
 | .un=>[]
 | .d _=>[]
 | .own a _=>[a]
 | .bx k ls=>k.toList++ownsLs ls
 | .dic a _=>[a]
def ownsLs:List L→List Addr
 | []=>[]
 | l::ls=>ownsL l++ownsLs ls
end
def owns (ρ:Ev):List Addr:=ρ.flatMap ownsL
theorem ownsLs_eq:∀ ls:List L,ownsLs ls=owns ls
 | []=>rfl
 | l::ls=>by rw [ownsLs,ownsLs_eq ls]; rfl
mutual
def Slot1 (K:PySem.W.Frag) (H:Hp) (s:Option V):L→Prop
 | .un=>True
 | .d x=>∃ v,s=some v∧Rep K H v x
 | .own a xs=>s=some (.ref a)∧∃ vs,H a=some (.lst vs)∧Reps K H vs xs
 | .bx none ls=>∃ a vs,s=some (.ref a)∧SqT K H a vs∧Slots K H vs ls
 | .bx (some a) ls=>s=some (.ref a)∧∃ vs,H a=some (.lst vs)∧Slots K H vs ls
 | .dic a kvs=>s=some (.ref a)∧∃ vs,H a=some (.dK vs)∧Paired (fun (p:Key×V) (q:Key×D)=>p.1=q.1∧Rep K H p.2 q.2) vs kvs
def Slots (K:PySem.W.Frag) (H:Hp) (vs:List V):List L→Prop
 | []=>vs=[]
 | l::ls=>∃ v us,vs=v::us∧Slot1 K H (some v) l∧Slots K H us ls
end
mutual
theorem Slot1.pres {K:PySem.W.Frag} {H H':Hp} (p:Pres H H'):∀ {s:Option V} (l:L),(∀ a∈ownsL l,H' a=H a)→Slot1 K H s l→Slot1 K H' s l
 | _,.un,_,_=>by simp only [Slot1]
 | _,.d x,_,h=>by
  simp only [Slot1] at h ⊢
  obtain ⟨v,e,r⟩:=h
  exact ⟨v,e,r.pres p⟩
 | _,.own a xs,q,h=>by
  simp only [Slot1] at h ⊢
  obtain ⟨e,vs,ha,r⟩:=h
  exact ⟨e,vs,(q a (by simp [ownsL])).trans ha,r.pres p⟩
 | _,.bx none ls,q,h=>by
  simp only [Slot1] at h ⊢
  obtain ⟨a,vs,e,ha,r⟩:=h
  exact ⟨a,vs,e,ha.pres p,Slots.pres p ls (fun b hb=>q b (by simp [ownsL,hb])) r⟩
 | _,.bx (some a) ls,q,h=>by
  simp only [Slot1] at h ⊢
  obtain ⟨e,vs,ha,r⟩:=h
  exact ⟨e,vs,(q a (by simp [ownsL])).trans ha,Slots.pres p ls (fun b hb=>q b (by simp [ownsL,hb])) r⟩
 | _,.dic a kvs,q,h=>by
  simp only [Slot1] at h ⊢
  obtain ⟨e,vs,ha,r⟩:=h
  exact ⟨e,vs,(q a (by simp [ownsL])).trans ha,Paired.mapP r fun _ _ z=>⟨z.1,z.2.pres p⟩⟩
theorem Slots.pres {K:PySem.W.Frag} {H H':Hp} (p:Pres H H'):∀ {vs:List V} (ls:List L),(∀ a∈ownsLs ls,H' a=H a)→Slots K H vs ls→Slots K H' vs ls
 | _,[],_,h=>by simpa only [Slots] using h
 | _,l::ls,q,h=>by
  simp only [Slots] at h ⊢
  obtain ⟨v,us,e,h1,h2⟩:=h
  exact ⟨v,us,e,Slot1.pres p l (fun b hb=>q b (by simp [ownsLs,hb])) h1,Slots.pres p ls (fun b hb=>q b (by simp [ownsLs,hb])) h2⟩
end
def OMut:HO→Prop
 | .lst _=>True
 | .dK _=>True
 | _=>False
theorem OMut.no {o:HO} (h:OMut o) (p:Pers o):False:=by cases o <;> first | exact h | exact p
mutual
theorem Slot1.lstAt {K:PySem.W.Frag} {H:Hp}:∀ {s:Option V} (l:L),Slot1 K H s l→∀ a∈ownsL l,∃ o,H a=some o∧OMut o
 | _,.un,_,a,ha=>by simp [ownsL] at ha
 | _,.d x,_,a,ha=>by simp [ownsL] at ha
 | _,.own b xs,h,a,ha=>by
  simp only [Slot1] at h
  have e:a=b:=by simpa [ownsL] using ha
  subst e
  obtain ⟨_,vs,q,_⟩:=h
  exact ⟨_,q,True.intro⟩
 | _,.bx none ls,h,a,ha=>by
  simp only [Slot1] at h
  obtain ⟨b,vs,e,_,r⟩:=h
  exact Slots.lstAt ls r a (by simpa [ownsL] using ha)
 | _,.bx (some b) ls,h,a,ha=>by
  simp only [Slot1] at h
  obtain ⟨e,vs,q,r⟩:=h
  rcases (by simpa [ownsL] using ha:a=b∨a∈ownsLs ls) with z | z
  ·
   subst z; exact ⟨_,q,True.intro⟩
  ·
   exact Slots.lstAt ls r a z
 | _,.dic b xs,h,a,ha=>by
  simp only [Slot1] at h
  have e:a=b:=by simpa [ownsL] using ha
  subst e
  obtain ⟨_,vs,q,_⟩:=h
  exact ⟨_,q,True.intro⟩
theorem Slots.lstAt {K:PySem.W.Frag} {H:Hp}:∀ {vs:List V} (ls:List L),Slots K H vs ls→∀ a∈ownsLs ls,∃ o,H a=some o∧OMut o
 | _,[],_,a,ha=>by simp [ownsLs] at ha
 | _,l::ls,h,a,ha=>by
  simp only [Slots] at h
  obtain ⟨v,us,e,h1,h2⟩:=h
  rcases (by simpa [ownsLs] using ha:a∈ownsL l∨a∈ownsLs ls) with z | z
  ·
   exact Slot1.lstAt l h1 a z
  ·
   exact Slots.lstAt ls h2 a z
end
structure REnv (K:PySem.W.Frag) (Pr H:Hp) (σ:St) (ρ:Ev):Prop where
 sub:∀ b o,Pr b=some o→H b=some o
 nd:(owns ρ).Nodup
 off:∀ a∈owns ρ,Pr a=none
 sl:Paired (Slot1 K H) σ ρ
theorem mem_owns {ρ:Ev} {a:Addr}:a∈owns ρ↔∃ l∈ρ,a∈ownsL l:=by
 unfold owns
 rw [List.mem_flatMap]
theorem own_mem {ρ:Ev} {a:Addr} {xs:List D} (h:L.own a xs∈ρ):a∈owns ρ:=mem_owns.mpr ⟨_,h,by simp [ownsL]⟩
theorem owns_append (a b:Ev):owns (a++b)=owns a++owns b:=List.flatMap_append
theorem Paired.mem2 {α β:Type} {F:α→β→Prop}:∀ {l1:List α} {l2:List β} {b:β},Paired F l1 l2→b∈l2→∃ a,a∈l1∧F a b
 | _,_,_,.nil,h=>by simp at h
 | _,_,_,.cons r t,h=>by
  rcases List.mem_cons.mp h with rfl | h
  ·
   exact ⟨_,List.mem_cons_self,r⟩
  ·
   obtain ⟨a,h1,h2⟩:=Paired.mem2 t h
   exact ⟨a,List.mem_cons_of_mem _ h1,h2⟩
theorem Paired.app {α β:Type} {F:α→β→Prop}:∀ {a c:List α} {b d:List β},Paired F a b→Paired F c d→Paired F (a++c) (b++d)
 | _,_,_,_,.nil,s=>s
 | _,_,_,_,.cons r t,s=>.cons r (Paired.app t s)
theorem Paired.unapp {α β:Type} {F:α→β→Prop}:∀ {a c:List α} {b d:List β},a.length=b.length→Paired F (a++c) (b++d)→Paired F a b∧Paired F c d
 | [],_,[],_,_,s=>⟨.nil,s⟩
 | x::a,_,y::b,_,hl,.cons r t=>by
  obtain ⟨p,q⟩:=Paired.unapp (a:=a) (b:=b) (by simpa using hl) t
  exact ⟨.cons r p,q⟩
 | [],_,_::_,_,hl,_=>by simp at hl
 | _::_,_,[],_,hl,_=>by simp at hl
theorem Paired.get2 {α β:Type} {F:α→β→Prop}:∀ {l1:List α} {l2:List β} {i:Nat} {b:β},Paired F l1 l2→l2[i]?=some b→∃ a,l1[i]?=some a∧F a b
 | _,_,_,_,.nil,e=>by simp at e
 | _,_,0,_,.cons h _,e=>by simp at e; subst e; exact ⟨_,rfl,h⟩
 | _,_,i+1,d,.cons _ t,e=>by
  obtain ⟨v,h1,h2⟩:=Paired.get2 (i:=i) (b:=d) t (by simpa using e)
  exact ⟨v,by simpa using h1,h2⟩
theorem Paired.set2 {α β:Type} {F:α→β→Prop} {a:α} {b:β} (r:F a b):∀ {l1:List α} {l2:List β} (i:Nat),Paired F l1 l2→Paired F (l1.set i a) (l2.set i b)
 | _,_,_,.nil=>.nil
 | _,_,0,.cons _ t=>.cons r t
 | _,_,i+1,.cons h t=>.cons h (Paired.set2 r i t)
theorem Paired.impMem {α β:Type} {F G:α→β→Prop}:∀ {l1:List α} {l2:List β},Paired F l1 l2→(∀ b∈l2,∀ a,F a b→G a b)→Paired G l1 l2
 | _,_,.nil,_=>.nil
 | _,_,.cons r t,h=>.cons (h _ List.mem_cons_self _ r) (Paired.impMem t fun b hb=>h b (List.mem_cons_of_mem _ hb))
theorem Paired.set_r {α β:Type} {F:α→β→Prop} {b:β}:∀ {l1:List α} {l2:List β} (i:Nat),Paired F l1 l2→(∀ a,l1[i]?=some a→F a b)→Paired F l1 (l2.set i b)
 | _,_,_,.nil,_=>.nil
 | _,_,0,.cons _ t,h=>.cons (h _ rfl) t
 | _,_,i+1,.cons q t,h=>.cons q (Paired.set_r i t fun a e=>h a (by simpa using e))
section
variable {K:PySem.W.Frag} {Pr H H':Hp} {σ τ w σ':St} {ρ μ lam ρ':Ev}
theorem REnv.len (E:REnv K Pr H σ ρ):σ.length=ρ.length:=Paired.length E.sl
def butOwn (H:Hp) (ρ:Ev):Hp:=fun b=>if b∈owns ρ then none else H b
theorem REnv.at_own (E:REnv K Pr H σ ρ) {a:Addr} (h:a∈owns ρ):∃ o,H a=some o∧OMut o:=by
 obtain ⟨l,hx,ha⟩:=mem_owns.mp h
 obtain ⟨s,_,q⟩:=Paired.mem2 E.sl hx
 exact q.lstAt l a ha
theorem REnv.wide (E:REnv K Pr H σ ρ):REnv K (butOwn H ρ) H σ ρ :=
 ⟨fun b o e=>by unfold butOwn at e; split at e; cases e; exact e,E.nd,fun a h=>by unfold butOwn; rw [if_pos h],E.sl⟩
theorem REnv.drop (E:REnv K Pr H (τ++σ) (lam++ρ)) (hl:τ.length=lam.length):REnv K Pr H σ ρ :=
 ⟨E.sub,(List.nodup_append.mp (owns_append lam ρ ▸ E.nd)).2.1,fun a h=>E.off a (by rw [owns_append]; exact List.mem_append_right _ h),(Paired.unapp hl E.sl).2⟩
theorem REnv.left (E:REnv K Pr H (τ++σ) (lam++ρ)) (hl:τ.length=lam.length):REnv K Pr H τ lam :=
 ⟨E.sub,(List.nodup_append.mp (owns_append lam ρ ▸ E.nd)).1,fun a h=>E.off a (by rw [owns_append]; exact List.mem_append_left _ h),(Paired.unapp hl E.sl).1⟩
theorem pres_of {H H':Hp} {ρ:Ev} {σ:St} {Pr:Hp} (E:REnv K Pr H σ ρ) (h:∀ b o,butOwn H ρ b=some o→H' b=some o):Pres H H':=fun b o p e=>by
 refine h b o ?_
 unfold butOwn
 rw [if_neg,e]
 intro hm
 obtain ⟨u,e',m⟩:=E.at_own hm
 rw [e] at e'
 cases e'
 exact m.no p
theorem REnv.step (E:REnv K Pr H (τ++σ) (lam++ρ)) (hl:τ.length=lam.length) (E':REnv K (butOwn H ρ) H' (w++σ') (μ++ρ')) (hw:w.length=μ.length):REnv K Pr H' (w++(τ++σ')) (μ++(lam++ρ')):=by
 have Eσ:=E.drop hl
 have p:Pres H H':=pres_of Eσ E'.sub
 have dis:∀ a∈owns lam,a∉owns ρ:=fun a h1 h2=>(List.nodup_append.mp (owns_append lam ρ ▸ E.nd)).2.2 a h1 a h2 rfl
 have at':∀ a∈owns lam,butOwn H ρ a=H a:=fun a h=>by unfold butOwn; rw [if_neg (dis a h)]
 have some':∀ a∈owns lam,∃ o,H a=some o∧OMut o:=fun a h=>E.at_own (by rw [owns_append]; exact List.mem_append_left _ h)
 have out:∀ a∈owns lam,a∉owns (μ++ρ'):=fun a h h2=>by
  have z:=E'.off a h2
  rw [at' a h] at z
  obtain ⟨vs,e,_⟩:=some' a h
  rw [e] at z
  cases z
 have s1:=(Paired.unapp hw E'.sl)
 have s2:=(Paired.unapp hl E.sl).1
 refine ⟨fun b o e=>?_,?_,fun a ha=>?_,Paired.app s1.1 (Paired.app ?_ s1.2)⟩
 ·
  refine E'.sub b o ?_
  unfold butOwn
  rw [if_neg,E.sub b o e]
  intro hm
  have z:=Eσ.off b hm
  rw [e] at z
  cases z
 ·
  have n1:=E'.nd
  rw [owns_append] at n1
  rw [owns_append,owns_append]
  obtain ⟨q1,q2,q3⟩:=List.nodup_append.mp n1
  refine List.nodup_append.mpr ⟨q1,List.nodup_append.mpr ⟨(List.nodup_append.mp (owns_append lam ρ ▸ E.nd)).1,q2,fun a ha b hb=>?_⟩,fun a ha b hb=>?_⟩
  ·
   rintro rfl
   exact out a ha (by rw [owns_append]; exact List.mem_append_right _ hb)
  ·
   rcases List.mem_append.mp hb with hb | hb
   ·
    rintro rfl
    exact out a hb (by rw [owns_append]; exact List.mem_append_left _ ha)
   ·
    exact q3 a ha b hb
 ·
  rw [owns_append,owns_append] at ha
  have key:a∈owns (μ++ρ')→Pr a=none:=fun h=>by
   have z:=E'.off a h
   unfold butOwn at z
   by_cases hm:a∈owns ρ
   ·
    exact Eσ.off a hm
   ·
    rw [if_neg hm] at z
    cases q:Pr a with
    | none=>rfl
    | some o=>rw [E.sub a o q] at z; cases z
  rcases List.mem_append.mp ha with h | h
  ·
   exact key (by rw [owns_append]; exact List.mem_append_left _ h)
  ·
   rcases List.mem_append.mp h with h | h
   ·
    exact E.off a (by rw [owns_append]; exact List.mem_append_left _ h)
   ·
    exact key (by rw [owns_append]; exact List.mem_append_right _ h)
 ·
  have:∀ l∈lam,∀ s,Slot1 K H s l→Slot1 K H' s l:=fun l hlm s h=>h.pres p l fun a e=>by
   have ha:a∈owns lam:=mem_owns.mpr ⟨l,hlm,e⟩
   obtain ⟨vs,e,_⟩:=some' a ha
   rw [E'.sub a _ ((at' a ha).trans e),e]
  exact Paired.impMem s2 this
end
end L2
namespace L2
open PySem PySem.Spec PyProof.Rows PySem.W
structure XStd (K:Frag) (c:Str) (C L:Addr) (cd:ClassData):Prop where
 cls:clsIn K C=some cd
 load:nsIn K mainGlobals "LoadError"=some (some (.ref L))
 name:cd.name=c
 dct:cd.hasDict=true
 mro:cd.mro=[.ref C,.ref L,.type "ValueError",.type "Exception",.type "BaseException",.type "object"]
 lname:∃ k,clsIn K L=some k∧k.name=("LoadError" : Str)
 ga:findIn K (.ref C) "__getattribute__"=some (some (.builtin "BaseException.__getattribute__"))
 gx:findIn K (.ref C) "__getattr__"=some none
 gc:findIn K (.ref C) "__class__"=some (some (.builtin "object.__class__"))
 sa:findIn K (.ref C) "__setattr__"=some (some (.builtin "object.__setattr__"))
 ty:typeIn K (.ref C)=some (.type "type")
 own:nsIn K mainGlobals c=some (some (.ref C))
theorem excStd_is {K:Frag} {c:Str} {C:Addr} (h:excStd K c C=true):∃ L cd,XStd K c C L cd:=by
 unfold excStd at h
 split at h
 ·
  rename_i cd L e1 e2
  simp only [Bool.and_eq_true,beq_iff_eq] at h
  obtain ⟨⟨⟨⟨⟨⟨⟨⟨⟨h1,h2⟩,h3⟩,h4⟩,h5⟩,h6⟩,h7⟩,h8⟩,h9⟩,h10⟩:=h
  obtain ⟨k,hk,hn⟩:=any_some h4
  exact ⟨L,cd,e1,e2,h1,h2,h3,⟨k,hk,beq_iff_eq.mp hn⟩,h5,h6,h7,h8,h9,h10⟩
 ·
  cases h
section
variable {K:Frag} {c:Str} {C L:Addr} {cd:ClassData}
theorem XStd.mroIn (S:XStd K c C L cd) (b:Value):PySem.W.mroIn K C b=some (([.ref C,.ref L,.type "ValueError",.type "Exception",.type "BaseException",.type "object"]:List Value).contains b):=by
 unfold PySem.W.mroIn
 rw [S.cls,Option.bind_some,S.mro]
 rfl
theorem xmro_type (C L:Addr) (T:String):(([.ref C,.ref L,.type "ValueError",.type "Exception",.type "BaseException",.type "object"]:List Value).contains (.type T))=(["ValueError","Exception","BaseException","object"]:List String).contains T:=by
 simp only [List.contains_cons,List.contains_nil,Bool.or_false]
 have e:∀ a:Addr,(Value.type T == Value.ref a)=false:=fun _=>rfl
 have f:∀ U:String,(Value.type T == Value.type U)=(T == U):=fun U=>by
  by_cases q:T=U
  ·
   subst q; simp
  ·
   rw [beq_eq_false_iff_ne.mpr q,beq_eq_false_iff_ne]
   intro z; injection z with z; exact q z
 rw [e,e,f,f,f,f]; rfl
theorem xmro_ref (C L D:Addr):(([.ref C,.ref L,.type "ValueError",.type "Exception",.type "BaseException",.type "object"]:List Value).contains (.ref D))=(D == C || D == L):=by
 simp only [List.contains_cons,List.contains_nil,Bool.or_false]
 have e:∀ T:String,(Value.ref D == Value.type T)=false:=fun _=>rfl
 have f:∀ a:Addr,(Value.ref D == Value.ref a)=(D == a):=fun U=>by
  by_cases q:D=U
  ·
   subst q; simp
  ·
   rw [beq_eq_false_iff_ne.mpr q,beq_eq_false_iff_ne]
   intro z; injection z with z; exact q z
 rw [e,e,e,e,f,f,Bool.or_false,Bool.or_false,Bool.or_false,Bool.or_false]
theorem XStd.has (S:XStd K c C L cd) {T:String} (h:(["ValueError","Exception","BaseException","object"]:List String).contains T=true):PySem.W.mroIn K C (.type T)=some true:=by
 rw [S.mroIn,xmro_type,h]
theorem XStd.isT (S:XStd K c C L cd) {M:Model} {h:Heap} (X:K.In h) (T:String):Looks M h (isSubtype (.ref C) (.type T)) ((["ValueError","Exception","BaseException","object"]:List String).contains T):=looks_mroIn X (by rw [S.mroIn,xmro_type])
theorem XStd.sub (S:XStd K c C L cd) {M:Model} {h:Heap} (X:K.In h) (b:Value):Looks M h (isSubtype (.ref C) b) (([.ref C,.ref L,.type "ValueError",.type "Exception",.type "BaseException",.type "object"]:List Value).contains b):=looks_mroIn X (S.mroIn b)
end
section
variable {prog:Program} {w:World} {A:Around} {E:Value→Shared→Prop} {s:Shared} {K:Frag} {c:Str} {x C L:Addr} {cd:ClassData} {ox:Obj} {od:Option Obj} {name:Str}
theorem xclass_entry {tk:Tok} {Q:Fin→Shared→Prop} (S:XStd K c C L cd) (X:K.In s.heap) (I:InstAt s.heap x ox C od) (hf:findObj K C od "__class__"=some (.bind (.builtin "getset_descriptor.__get__") (.builtin "object.__class__"))) (hq:Q (.done (.ret (.ref C))) s) :
  wpAny (model prog w) A (Builtin.«object.__getattribute__» ⟨[.ref x,.str "__class__" tk],[]⟩) Q E s:=by
 obtain ⟨hh,g,d,t,os⟩:=s
 have L0:=I.type (M:=model prog w)
 have L1:=looks_find (M:=model prog w) X I hf
 unfold Builtin.«object.__getattribute__»
 refine wpAny_bind (wpAny_pure (wpAny_bind (wpAny_pure ?_)))
 refine wpAny_bind (L0.at (wpAny_bind (L1.at ?_)))
 show wpAny _ _ (holding [Value.builtin "object.__class__"] (call (.builtin "getset_descriptor.__get__") [.builtin "object.__class__",.ref x,.ref C]) >>= ret) _ _ _
 refine wpAny_bind (wpAny_holding (wpAny_call ?_))
 exact class_get (s:=⟨hh,g,d,t,os⟩) (ox:=ox) (od:=od) X I (S.has (by decide)) (wpAny_pure hq)
theorem xget_by {tk:Tok} {v:Value} {fill expr:Bool} {Q:Value→Shared→Prop} (S:XStd K c C L cd) (X:K.In s.heap) (I:InstAt s.heap x ox C od)
  (he:∀ (A':Around) (Q':Fin→Shared→Prop),Q' (.done (.ret v)) s→wpAny (model prog w) A' (Builtin.«object.__getattribute__» ⟨[.ref x,.str name tk],[]⟩) Q' (fun _ _=>False) s) (hh:handedIn v=true) (hq:Q v s) :
  wpAny (model prog w) A (getAttrBy (.ref x) (.str name tk) fill expr) Q E s:=by
 have FB:=F.excAttr_ValueError
 have L0:=I.type (M:=model prog w)
 have L1:=looks_findIn (M:=model prog w) X S.ga
 have L2:=looks_findIn (M:=model prog w) X S.gx
 unfold getAttrBy
 refine wpAny_holding (wpAny_bind (L0.here (wpAny_bind (L1.here ?_))))
 have hx2:(Value.builtin "BaseException.__getattribute__" == Value.builtin "object.__getattribute__")=false:=by decide +kernel
 dsimp only
 rw [hx2,Bool.and_false,if_neg (by decide)]
 unfold getAttrByItsOwn
 refine wpAny_bind ((looks_hook (mc:=.ref C) X (r:=none) S.gx).here ?_)
 refine wpAny_bind (wpAny_attempt (wpAny_holding ?_))
 have hx0:(expr && onTheHeap (Value.builtin "BaseException.__getattribute__"))=false:=by cases expr <;> rfl
 unfold callGetattribute boundAndCalled
 rw [hx0,if_neg (by decide),FB.ga.bind]
 refine wpAny_bind (wpAny_pure (wpAny_call ?_))
 have hi:Looks (model prog w) s.heap (isInstance (.ref x) (.type "BaseException")) true:=L0.andThen (S.isT X _)
 have hkd:builtinKind "BaseException.__getattribute__"=some .slot:=by decide +kernel
 have hsp:splitId "BaseException.__getattribute__"=some ("BaseException","__getattribute__"):=by decide +kernel
 refine codeAny_call_builtin FB.ga.plain F.entry_bexc_ga (@check_slot (model prog w) _ _ s "BaseException.__getattribute__" "BaseException" "__getattribute__" (.ref x) [.str name tk] [] _ hkd hsp hi (F.args_bexc_ga (.ref x) (.str name tk)) ?_)
 refine wpAny_mono (he _ _ ?_) (fun _ _ z=>z) fun _ _ z=>z.elim
 show wpAny _ _ (handedOut v) _ _ _
 rw [handedOut_of hh]
 exact wpAny_pure hq
end
end L2
namespace L2
open PySem PySem.Spec PyProof.Rows PySem.W
theorem cls_get (K:Frag):specialIn K (.builtin "object.__class__") "__get__"=some (some (.builtin "getset_descriptor.__get__")):=(by decide +kernel:specialIn [] (.builtin "object.__class__") "__get__"=some (some (.builtin "getset_descriptor.__get__")))
theorem cls_takes (K:Frag):takesIn K (.builtin "object.__class__")=some true:=(by decide +kernel:takesIn [] (.builtin "object.__class__")=some true)
section
variable {prog:Program} {w:World} {A:Around} {E:Value→Shared→Prop} {s:Shared} {K:Frag} {c:Str} {x C L:Addr} {cd:ClassData} {ox:Obj} {od:Option Obj} {name:Str}
theorem XStd.fclass (S:XStd K c C L cd) (od:Option Obj):findObj K C od "__class__"=some (.bind (.builtin "getset_descriptor.__get__") (.builtin "object.__class__")):=by
 unfold findObj
 rw [S.cls,Option.bind_some,S.gc,Option.bind_some]
 simp [cls_get,cls_takes]
theorem xattr_class {Q:Option Value→Shared→Prop} (S:XStd K c C L cd) (X:K.In s.heap) (I:InstAt s.heap x ox C od) (hq:Q (some (.ref C)) { s with toks:=s.toks+1 }) :
  wpAny (model prog w) A (getAttr? (.ref x) "__class__") Q E s:=by
 obtain ⟨hh,g,d,t,os⟩:=s
 unfold getAttr? getAttrBy?
 refine wpAny_bind (wpAny_mkText (wpAny_bind (wpAny_attempt ?_)))
 exact xget_by (s:=⟨hh,g,d,t+1,os⟩) (ox:=ox) (od:=od) S X I (fun A' Q' q=>xclass_entry (s:=⟨hh,g,d,t+1,os⟩) S X I (S.fclass od) q) rfl (wpAny_pure hq)
theorem kitx_exc (S:XStd K c C L cd):KitX K (.ref x) (.ref C) (fun h=>∃ ox od,InstAt h x ox C od) where
 ty:=fun _ _ _ ⟨_,_,I⟩=>I.type
 it:=fun _ _ X _=>by
  have hc:=S.cls
  unfold clsIn at hc
  split at hc
  ·
   rename_i ho
   intro A' Q' E' s' k q
   unfold isType loadHead
   exact wpAny_bind (wpAny_loadPart (k _ _ (X _ _ ho)) (wpAny_pure q))
  ·
   cases hc
 ne:=fun h tp dd its n sl X htp=>by
  refine Bool.eq_false_iff.mpr fun q=>?_
  have e:C=tp:=Value.ref.inj (beq_iff_eq.mp q)
  subst e
  have hc:=S.cls
  unfold clsIn at hc
  split at hc
  ·
   rename_i ho
   have z:=(X _ _ ho).symm.trans htp
   cases z
  ·
   cases hc
 ca:=fun X ⟨_,_,I⟩ k=>xattr_class S X I k
end
theorem clsIn_obj {K:Frag} {C:Addr} {cd:ClassData} (h:clsIn K C=some cd):∃ oc odc sl,K.lookup C=some ⟨oc,odc,.cls cd,sl⟩:=by
 unfold clsIn at h
 split at h
 ·
  rename_i ho; cases h; exact ⟨_,_,_,ho⟩
 ·
  cases h
section
variable {prog:Program} {w:World} {A:Around} {E:Value→Shared→Prop} {s:Shared} {K:Frag} {c:Str} {x C L:Addr} {cd:ClassData} {ox:Obj} {od:Option Obj} {name:Str}
theorem xinit {vs:Array Value} {text:Value} {Q:Value→Shared→Prop} (S:XStd K c C L cd) (X:K.In s.heap) (I:InstAt s.heap x ox C od) (hd:ox.data=.fields vs) (hz:0 < vs.size)
  (hq:∀ t,Q .none { s with heap:=(s.heap.push { cls:=.type "tuple",data:=.seq #[text] }).update x (Obj.mapFields (·.setIfInBounds 0 (.ref s.heap.objs.size))),toks:=t }) :
  wpAny (model prog w) A (call (.builtin "ValueError.__init__") [.ref x,text]) Q E s:=by
 have FB:=F.excBase_ValueError
 have hi:Looks (model prog w) s.heap (isInstance (.ref x) (.type "ValueError")) true:=I.type.andThen (S.isT X _)
 have hx:=I.at_
 obtain ⟨hh,g,d,t,os⟩:=s
 have hx1:=Heap.get?_push_of_some (h:=hh) { cls:=.type "tuple",data:=.seq #[text] } hx
 have h0:vs[0]?=some vs[0]:=Array.getElem?_eq_getElem hz
 have hst:=FB.noStar
 refine wpAny_call (codeAny_call_builtin FB.init.plain FB.initEntry ?_)
 simp only [checkBuiltinCall,FB.initKind,FB.initSplit,FB.initRow]
 refine wpAny_bind (hi.here ?_)
 simp only [Bool.not_true,Bool.false_eq_true,if_false]
 have hcl:=I.cls
 obtain ⟨oc,odc,sl,hK⟩:=clsIn_obj S.cls
 have hC:hh.get? C=some ⟨oc,odc,.cls cd,sl⟩:=X _ _ hK
 repeat (first | (with_reducible refine wpAny_loadPart_at hx ?_; rw [hcl]) | with_reducible refine wpAny_loadPart_at hC ?_ | with_reducible refine (S.isT X _).here ?_ | wp_step)
 rw [hd]
 refine wpAny_pure ?_
 rw [h0]
 refine wpAny_pure (wpAny_bind (wpAny_setField hx1 hd hz ?_))
 have done:∀ t',wpAny (model prog w) A.in1 (ret Value.none) (fun fin s'=>match fin with
   | Fin.done f=>(match (Except.ok f:Result) with
    | .ok (.ret v)=>Q v s'
    | .ok _=>False
    | .error e=>E e s')
   | Fin.again c'=>c'.quiet=true∧codeAny (model prog w) A c' (fun r s'=>match r with
    | .ok (.ret v)=>Q v s'
    | .ok _=>False
    | .error e=>E e s') s') (fun e s'=>E e s') ⟨(hh.push { cls:=.type "tuple",data:=.seq #[text] }).update x (Obj.mapFields (·.setIfInBounds 0 (.ref hh.objs.size))),g,d,t',os⟩:=fun t'=>wpAny_pure (hq t')
 split
 ·
  exact wpAny_letGo (done _)
 ·
  exact wpAny_pure (done _)
theorem xset_open {v:Value} {Q:Unit→Shared→Prop} (S:XStd K c C L cd) (X:K.In s.heap) (I:InstAt s.heap x ox C od) (hna:findIn K (.ref C) name=some none)
  (h:∀ (A':Around) (R:Fin→Shared→Prop),(∀ s',Q () s'→R (.done (.ret .none)) s')→wpAny (model prog w) A' (Builtin.ObjectAttr.storeInOwnDict (.ref x) (.ref C) (.str name s.toks) name v false) R (fun _ _=>False) { s with toks:=s.toks+1 }) :
  wpAny (model prog w) A (setAttr (.ref x) name v) Q E s:=by
 have SF:=PySem.F.store_ValueError
 obtain ⟨hh,g,d,t,os⟩:=s
 have L0:=I.type (M:=model prog w)
 have L1:=looks_findIn (M:=model prog w) X S.sa
 have L2:=looks_findIn (M:=model prog w) X hna
 have Lm:Looks (model prog w) hh (mroOf (.ref C)) cd.mro:=(looks_clsIn X S.cls).andThen .now
 have hi:Looks (model prog w) hh (isInstance (.ref x) (.type "object")) true:=L0.andThen (S.isT X _)
 unfold setAttr callSpecial? specialOf
 refine wpAny_bind (wpAny_mkText (wpAny_bind (wpAny_bind (wpAny_bind (L0.at (L1.at ?_))))))
 dsimp only
 refine wpAny_holding (wpAny_bind ?_)
 rw [SF.slot.bind]
 refine wpAny_pure (wpAny_bind (wpAny_call ?_))
 refine codeAny_call_builtin SF.slot.plain SF.entry (@check_slot (model prog w) _ _ ⟨hh,g,d,t+1,os⟩ "object.__setattr__" "object" "__setattr__" (.ref x) [.str name t,v] [] _ SF.kind SF.split hi (SF.args (.ref x) (.str name t) v) ?_)
 show wpAny _ _ (Builtin.«object.__setattr__» ⟨[.ref x,.str name t,v],[]⟩) _ _ _
 rw [osa_eq,refuse_eq]
 refine wpAny_bind (wpAny_bind (L0.at (wpAny_bind (Lm.at ?_))))
 rw [S.mro,refuseLoop_ref,refuseLoop_ref,SF.passes]
 refine wpAny_pure (wpAny_bind (L0.at (wpAny_bind (L2.at (wpAny_bind (wpAny_pure ?_))))))
 dsimp only
 refine wpAny_mono (h _ _ fun s' q=>?_) (fun _ _ z=>z) fun _ _ z=>z.elim
 exact wpAny_pure (wpAny_pure q)
theorem xset_new {v:Value} {Q:Unit→Shared→Prop} (S:XStd K c C L cd) (X:K.In s.heap) (I:InstAt s.heap x ox C od) (hdn:ox.dict=none) (hna:findIn K (.ref C) name=some none)
  (hq:∀ h' tk,h'.get? x=some { ox with dict:=some s.heap.objs.size }→h'.Ns1 s.heap.objs.size (fun y=>if y=name then some v else none)→(∀ b o,b≠x→s.heap.get? b=some o→h'.get? b=some o)→Q () { s with heap:=h',toks:=tk }) :
  wpAny (model prog w) A (setAttr (.ref x) name v) Q E s:=by
 refine xset_open S X I hna fun A' R k=>?_
 obtain ⟨hh,g,d,t,os⟩:=s
 have hx:=I.at_
 have hcl:=I.cls
 have hno:=I.no
 have Lc:=looks_clsIn (M:=model prog w) X S.cls
 have hxs:x≠hh.objs.size:=Nat.ne_of_lt (Heap.lt_size hx)
 unfold Builtin.ObjectAttr.storeInOwnDict
 refine wpAny_bind (wpAny_pure ?_)
 rw [if_neg (by show ¬ ((Value.ref C == Value.type "module")=true); exact fun z=>by cases z)]
 refine wpAny_bind ?_
 show wpAny _ _ (instanceDict x true) _ _ _
 unfold instanceDict
 refine wpAny_bind (wpAny_loadPart_at hx ?_)
 rw [hcl]
 dsimp only
 refine wpAny_bind (Lc.at ?_)
 rw [S.dct]
 simp only [Bool.not_true,Bool.false_eq_true,if_false]
 rw [hdn]
 dsimp only
 rw [if_neg (by simp [typeHasDict])]
 have go:∀ (Q':Option Addr→Shared→Prop),(∀ h1,h1.get? x=some { ox with dict:=some hh.objs.size }→h1.get? hh.objs.size=some { cls:=.type "dict",data:=.dict #[] }→(∀ b o,b≠x→hh.get? b=some o→h1.get? b=some o)→Q' (some hh.objs.size) ⟨h1,g,d,t+1,os⟩) →
   wpAny (model prog w) A' (do
    let d ← alloc { cls:=.type "dict",data:=.dict #[] }
    update x fun o=>{ o with dict:=some d }
    dictMade (.ref C) x d) Q' (fun _ _=>False) ⟨hh,g,d,t+1,os⟩:=fun Q' q=>by
  have hx1:(hh.push { cls:=.type "dict",data:=.dict #[] }).get? x=some ox:=Heap.get?_push_of_some _ hx
  refine wpAny_bind (wpAny_alloc' ?_)
  refine wpAny_bind (wpAny_update' hx1 ?_)
  refine wpAny_pure (q _ ?_ ?_ fun b o hb e=>?_)
  ·
   refine Heap.get?_update_self _ hx1 ?_
   have fr:=(Heap.get?_some_iff.mp hx).2
   obtain ⟨c0,d0,dt,s0⟩:=ox
   cases dt <;> first | rfl | exact fr
  ·
   exact (Heap.get?_update_ne _ _ _ _ hxs.symm).trans (Heap.get?_push_at rfl rfl)
  ·
   exact (Heap.get?_update_ne _ _ _ _ hb).trans (Heap.get?_push_of_some _ e)
 have fin:∀ h1,h1.get? x=some { ox with dict:=some hh.objs.size }→h1.get? hh.objs.size=some { cls:=.type "dict",data:=.dict #[] }→(∀ b o,b≠x→hh.get? b=some o→h1.get? b=some o) →
   wpAny (model prog w) A' (Builtin.ObjectAttr.storeInDict hh.objs.size (.str name t) name v) R (fun _ _=>False) ⟨h1,g,d,t+1,os⟩:=fun h1 e1 e2 e3=>by
  have n0:h1.Ns hh.objs.size (fun _=>none):=⟨_,#[],_,e2,rfl,fun e he=>absurd he (by simp),fun _=>rfl⟩
  unfold Builtin.ObjectAttr.storeInDict Builtin.ObjectAttr.newKeyGuard
  refine wpAny_bind (wpAny_pure (wpAny_bind (wpAny_nsSet1 (Heap.Ns1.of_empty n0) fun h2 n2 hs=>?_)))
  obtain ⟨oD,esD,epD,hoD,hdD,hcD⟩:=n2.count (Within.cons name v Within.nil)
  refine wpAny_bind (wpAny_lookBehind hoD (by rw [hdD]; exact pastItsLine_dict (Nat.le_trans hcD (by rw [List.length_cons,List.length_nil,sizeLine_eq]; omega))) ?_)
  refine wpAny_pure (k _ (hq h2 _ ((hs.2 x hxs).trans e1) n2 fun b o hb e=>(hs.2 b (Nat.ne_of_lt (Heap.lt_size e))).trans (e3 b o hb e)))
 split
 ·
  rename_i q
  rw [notCls,q] at hno
  cases hno
 ·
  exact go _ fin
theorem xset_old {v:Value} {Q:Unit→Shared→Prop} {dx:Addr} {mA:Str→Option Value} {ns:List Str} (S:XStd K c C L cd) (X:K.In s.heap) (I:InstAt s.heap x ox C od) (hdx:ox.dict=some dx) (hN:s.heap.Ns1 dx mA) (hw:PySem.Within mA ns) (hz:ns.length≤1000) (hna:findIn K (.ref C) name=some none)
  (hq:∀ h' tk,h'.Ns1 dx (fun y=>if y=name then some v else mA y)→Heap.SameBut dx s.heap h'→Q () { s with heap:=h',toks:=tk }) :
  wpAny (model prog w) A (setAttr (.ref x) name v) Q E s:=by
 refine xset_open S X I hna fun A' R k=>?_
 obtain ⟨hh,g,d,t,os⟩:=s
 have hx:=I.at_
 have hcl:=I.cls
 have Lc:=looks_clsIn (M:=model prog w) X S.cls
 unfold Builtin.ObjectAttr.storeInOwnDict
 refine wpAny_bind (wpAny_pure ?_)
 rw [if_neg (by show ¬ ((Value.ref C == Value.type "module")=true); exact fun z=>by cases z)]
 refine wpAny_bind ?_
 show wpAny _ _ (instanceDict x true) _ _ _
 unfold instanceDict
 refine wpAny_bind (wpAny_loadPart_at hx ?_)
 rw [hcl]
 dsimp only
 refine wpAny_bind (Lc.at ?_)
 rw [S.dct]
 simp only [Bool.not_true,Bool.false_eq_true,if_false]
 rw [hdx]
 refine wpAny_pure ?_
 show wpAny _ _ (Builtin.ObjectAttr.storeInDict dx (.str name t) name v) _ _ _
 unfold Builtin.ObjectAttr.storeInDict Builtin.ObjectAttr.newKeyGuard
 refine wpAny_bind (wpAny_pure (wpAny_bind (wpAny_nsSet1 hN fun h2 n2 hs=>?_)))
 obtain ⟨oD,esD,epD,hoD,hdD,hcD⟩:=n2.count (Within.cons name v hw)
 refine wpAny_bind (wpAny_lookBehind hoD (by rw [hdD]; exact pastItsLine_dict (Nat.le_trans hcD (by rw [List.length_cons,sizeLine_eq]; omega))) ?_)
 exact wpAny_pure (k _ (hq h2 _ n2 hs))
end
end L2
namespace L2
open PySem PySem.Spec PyProof.Rows
section
variable {X:Cx} {pins:List (Addr×Obj)} {σ:St} {H:Hp} {s:Shared}
theorem Inv.reword {a:Addr} {u w:HO} (I:Inv X pins σ H s) (h:H a=some u) (hu:¬ Pers u) (hw:∀ y,u≠.own y) (nw:ObjOk X.prog X.w H s.heap a w) (hw2:∀ C dx fs,w≠.ins C dx fs):Inv X pins σ (upd H a w) s:=by
 have ne:∀ b,H b=none→b≠a:=fun b n e=>by subst e; rw [h] at n; cases n
 have nt:∀ b xs,H b=some (.tup xs)→b≠a:=fun b xs n e=>by subst e; rw [h] at n; cases n; exact hu True.intro
 have nf:∀ b o z,H b=some (.frz o z)→b≠a:=fun b o z n e=>by subst e; rw [h] at n; cases n; exact hu True.intro
 have no:∀ b z,H b=some (.own z)→b≠a:=fun b z n e=>by subst e; rw [h] at n; cases n; exact hw _ rfl
 refine ⟨I.ok,I.os,I.bare,⟨I.base.keep,I.base.slot,fun b ob e n hx=>?_,I.base.there,fun b xs e=>?_,fun b ob z e=>?_,fun b ps e=>?_⟩,I.loc,I.cell,?_,fun x c e=>?_,fun p hp=>?_,fun b z e=>?_,I.len⟩
 ·
  have q:=I.base.free b ob e n hx
  rw [upd_ne (ne b q)]; exact q
 ·
  have q:=I.base.tups b xs e
  rw [upd_ne (nt b xs q)]; exact q
 ·
  have q:=I.base.frzs b ob z e
  rw [upd_ne (nf b ob z q)]; exact q
 ·
  have q:=I.base.tbls b ps e
  rw [upd_ne (fun z=>by subst z; rw [h] at q; cases q; exact hu True.intro)]; exact q
 ·
  rw [upd_ne (ne _ I.free)]; exact I.free
 ·
  rcases I.freeC x c e with z | ⟨hf,o,z⟩
  ·
   exact .inl (by rw [upd_ne (ne _ z)]; exact z)
  ·
   exact .inr ⟨hf,o,by rw [upd_ne (nf _ _ _ z)]; exact z⟩
 ·
  obtain ⟨e,n,r⟩:=I.pin p hp
  exact ⟨e,by rw [upd_ne (ne _ n)]; exact n,r⟩
 ·
  by_cases hb:b=a
  ·
   subst hb
   rw [upd_same] at e
   cases e
   exact nw.stay (fun c v _ q=>q) (fun c q=>by rw [upd_ne (no c _ q)]; exact q) (fun c xs q=>by rw [upd_ne (nt c xs q)]; exact q) fun c ob _ _ q=>by rw [upd_ne (nf c ob _ q)]; exact q
  ·
   rw [upd_ne hb] at e
   exact (I.hok b z e).stay (fun c v _ q=>q) (fun c q=>by rw [upd_ne (no c _ q)]; exact q) (fun c xs q=>by rw [upd_ne (nt c xs q)]; exact q) fun c ob _ _ q=>by rw [upd_ne (nf c ob _ q)]; exact q
theorem Inv.freezeL {a:Addr} {xs:List V} (I:Inv X pins σ H s) (h:H a=some (.lst xs)):∃ o,Inv X pins σ (upd H a (.frz o (.lst xs))) s:=by
 obtain ⟨z,its,n,r,e⟩:=id (I.hok a _ h)
 exact ⟨_,I.reword h (fun q=>q) (fun _ q=>nomatch q) ⟨e,z,its,n,r,e⟩ (fun _ _ _ q=>nomatch q)⟩
end
section
variable {K:PySem.W.Frag} {Pr H H':Hp} {σ τ w:St} {ρ μ lam ρ':Ev}
theorem REnv.new (E:REnv K Pr H σ ρ) {p:Addr} {o:HO} (h:H p=none):REnv K Pr (upd H p o) σ ρ:=by
 have k:∀ b u,H b=some u→upd H p o b=some u:=fun b u e=>by rw [upd_ne (ne_of_none e h)]; exact e
 exact ⟨fun b u e=>k b u (E.sub b u e),E.nd,E.off,Paired.impMem E.sl fun l hl s q=>q.pres (fun b u _ e=>k b u e) l fun a e=>by
  obtain ⟨vs,e,_⟩:=E.at_own (mem_owns.mpr ⟨l,hl,e⟩)
  rw [k _ _ e,e]⟩
theorem Reps.new {vs:List V} {ds:List D} (r:Reps K H vs ds) {p:Addr} {o:HO} (h:H p=none):Reps K (upd H p o) vs ds:=r.pres fun b u _ e=>by rw [upd_ne (ne_of_none e h)]; exact e
theorem Rep.new {v:V} {d:D} (r:Rep K H v d) {p:Addr} {o:HO} (h:H p=none):Rep K (upd H p o) v d:=r.pres fun b u _ e=>by rw [upd_ne (ne_of_none e h)]; exact e
theorem owns_cons_un:owns (.un::ρ)=owns ρ:=rfl
theorem owns_cons_own {a:Addr} {xs:List D}:owns (.own a xs::ρ)=a::owns ρ:=rfl
theorem REnv.cons_d (E:REnv K Pr H σ ρ) {v:V} {x:D} (r:Rep K H v x):REnv K Pr H (some v::σ) (.d x::ρ):=⟨E.sub,E.nd,E.off,.cons ⟨v,rfl,r⟩ E.sl⟩
theorem REnv.cons_un (E:REnv K Pr H σ ρ) {v:Option V}:REnv K Pr H (v::σ) (.un::ρ):=⟨E.sub,E.nd,E.off,.cons True.intro E.sl⟩
theorem REnv.cons_own (E:REnv K Pr H σ ρ) {p:Addr} {vs:List V} {xs:List D} (h:H p=none) (r:Reps K H vs xs):REnv K Pr (upd H p (.lst vs)) (some (.ref p)::σ) (.own p xs::ρ):=by
 have E':=E.new (o:=.lst vs) h
 refine ⟨E'.sub,?_,fun a ha=>?_,.cons ⟨rfl,vs,upd_same,r.new h⟩ E'.sl⟩
 ·
  rw [owns_cons_own]
  refine List.nodup_cons.mpr ⟨fun hm=>?_,E.nd⟩
  obtain ⟨us,e,_⟩:=E.at_own hm
  rw [h] at e; cases e
 ·
  rw [owns_cons_own] at ha
  rcases List.mem_cons.mp ha with rfl | ha
  ·
   cases q:Pr a with
   | none=>rfl
   | some u=>rw [E.sub a u q] at h; cases h
  ·
   exact E.off a ha
theorem REnv.cons_tup (E:REnv K Pr H σ ρ) {p:Addr} {vs:List V} {xs:List D} (h:H p=none) (r:Reps K H vs xs):REnv K Pr (upd H p (.tup vs)) (some (.ref p)::σ) (.d (.tup xs)::ρ) :=
 (E.new h).cons_d (.tup (SqT.of upd_same) (r.new h))
theorem REnv.freeze (E:REnv K Pr H σ (.own a xs::ρ)) {vs:List V} (h:H a=some (.lst vs)) (o:Obj):REnv K Pr (upd H a (.frz o (.lst vs))) σ (.d (.lst xs)::ρ):=by
 have pa:Pr a=none:=E.off a (by rw [owns_cons_own]; exact List.mem_cons_self)
 have nd:=E.nd
 rw [owns_cons_own] at nd
 obtain ⟨hn,nd⟩:=List.nodup_cons.mp nd
 have p:Pres H (upd H a (.frz o (.lst vs))):=fun b u pu e=>by
  rw [upd_ne]; exact e
  rintro rfl
  rw [h] at e; cases e; exact pu
 refine ⟨fun b u e=>?_,nd,fun b hb=>E.off b (by rw [owns_cons_own]; exact List.mem_cons_of_mem _ hb),?_⟩
 ·
  rw [upd_ne]; exact E.sub b u e
  rintro rfl
  rw [pa] at e; cases e
 ·
  have sl:=E.sl
  cases sl with
  | cons q t =>
   obtain ⟨e,us,e2,r⟩:=q
   rw [h] at e2; cases e2
   refine .cons ⟨.ref a,e,.lst (.inl ⟨o,upd_same⟩) (r.pres p)⟩ (Paired.impMem t fun l hl s z=>z.pres p l fun b hbm=>?_)
   rw [upd_ne]
   rintro rfl
   exact hn (mem_owns.mpr ⟨l,hl,hbm⟩)
theorem owns_cons (l:L) (ρ:Ev):owns (l::ρ)=ownsL l++owns ρ:=rfl
theorem owns_takeL {k:L}:∀ {ρ:Ev} {i:Nat} {l:L},ρ[i]?=some k→ownsL l=[]→(owns ρ).Perm (ownsL k++owns (ρ.set i l))
 | [],_,_,h,_=>by simp at h
 | _::ρ,0,l,h,hl=>by
  simp at h; subst h
  show (owns (_::ρ)).Perm (_++owns (l::ρ))
  rw [owns_cons,owns_cons,hl]
  exact List.Perm.refl _
 | m::ρ,i+1,l,h,hl=>by
  have ih:=owns_takeL (i:=i) (ρ:=ρ) (l:=l) (by simpa using h) hl
  show (owns (m::ρ)).Perm (ownsL k++owns (m::ρ.set i l))
  rw [owns_cons,owns_cons]
  refine (List.Perm.append_left _ ih).trans ?_
  rw [← List.append_assoc,← List.append_assoc]
  exact List.Perm.append_right _ List.perm_append_comm
theorem owns_take {a:Addr} {xs:List D} {ρ:Ev} {i:Nat} {l:L} (h:ρ[i]?=some (.own a xs)) (hl:ownsL l=[]):(owns ρ).Perm (a::owns (ρ.set i l)):=owns_takeL h hl
theorem owns_put {ρ:Ev} {i:Nat} (l:L) (h:ρ[i]?=some .un):(owns (ρ.set i l)).Perm (ownsL l++owns ρ):=by
 have hi:i < ρ.length:=(List.getElem?_eq_some_iff.mp h).1
 have pm:=owns_takeL (ρ:=ρ.set i l) (i:=i) (k:=l) (l:=.un) (by simp [hi]) rfl
 rw [List.set_set] at pm
 have e2:ρ.set i .un=ρ:=by
  have:=List.set_getElem_self (as:=ρ) (i:=i) hi
  have e3:ρ[i]=.un:=(List.getElem?_eq_some_iff.mp h).2
  rw [e3] at this; exact this
 rw [e2] at pm
 exact pm
theorem REnv.outL (E:REnv K Pr H σ ρ) {i:Nat} {k:L} {s:Option V} (h:ρ[i]?=some k) (hs:σ[i]?=some s):REnv K Pr H (s::σ) (k::ρ.set i .un):=by
 have pm:=owns_takeL (l:=.un) h rfl
 obtain ⟨s',hs',q⟩:=Paired.get2 E.sl h
 rw [hs] at hs'
 cases hs'
 refine ⟨E.sub,?_,fun b hb=>E.off b (pm.mem_iff.mpr (by rw [owns_cons] at hb; exact hb)),.cons q (Paired.set_r i E.sl fun _ _=>by simp only [Slot1])⟩
 rw [owns_cons]; exact pm.nodup_iff.mp E.nd
theorem REnv.out (E:REnv K Pr H σ ρ) {i:Nat} {a:Addr} {xs:List D} (h:ρ[i]?=some (.own a xs)):REnv K Pr H (some (.ref a)::σ) (.own a xs::ρ.set i .un):=by
 have pm:=owns_take (l:=.un) h rfl
 obtain ⟨s,hs,q⟩:=Paired.get2 E.sl h
 refine ⟨E.sub,?_,fun b hb=>E.off b (pm.mem_iff.mpr (by rw [owns_cons_own] at hb; exact hb)),.cons ?_ (Paired.set_r i E.sl fun _ _=>by simp only [Slot1])⟩
 ·
  rw [owns_cons_own]; exact pm.nodup_iff.mp E.nd
 ·
  obtain ⟨_,r⟩:=q
  exact ⟨rfl,r⟩
theorem REnv.back {v:Option V} {l:L} (E:REnv K Pr H (v::σ) (l::ρ)) {i:Nat} (h:ρ[i]?=some .un) (hs:σ[i]?=some v):REnv K Pr H σ (ρ.set i l):=by
 have sl:=E.sl
 cases sl with
 | cons q t =>
  have e1:ρ.set i l=(ρ.set i l):=rfl
  refine ⟨E.sub,?_,fun b hb=>?_,Paired.set_r i t fun a e=>by rw [hs] at e; cases e; exact q⟩
  ·
   exact (owns_put l h).nodup_iff.mpr E.nd
  ·
   exact E.off b ((owns_put l h).mem_iff.mp hb)
theorem REnv.write (E:REnv K Pr H σ (.own a xs::ρ)) {vs:List V} {ys:List D} (r:Reps K H vs ys):REnv K Pr (upd H a (.lst vs)) σ (.own a ys::ρ):=by
 have pa:Pr a=none:=E.off a (by rw [owns_cons_own]; exact List.mem_cons_self)
 have nd:=E.nd
 rw [owns_cons_own] at nd
 obtain ⟨hn,nd'⟩:=List.nodup_cons.mp nd
 obtain ⟨us,ha,mu⟩:=E.at_own (a:=a) (by rw [owns_cons_own]; exact List.mem_cons_self)
 have p:Pres H (upd H a (.lst vs)):=fun b u pu e=>by
  rw [upd_ne]; exact e
  rintro rfl
  rw [ha] at e; cases e; exact mu.no pu
 refine ⟨fun b u e=>?_,nd,fun b hb=>E.off b hb,?_⟩
 ·
  rw [upd_ne]; exact E.sub b u e
  rintro rfl
  rw [pa] at e; cases e
 ·
  have sl:=E.sl
  cases sl with
  | cons q t =>
   obtain ⟨e,_⟩:=q
   refine .cons ⟨e,vs,upd_same,r.pres p⟩ (Paired.impMem t fun l hl s z=>z.pres p l fun b hbm=>?_)
   rw [upd_ne]
   rintro rfl
   exact hn (mem_owns.mpr ⟨l,hl,hbm⟩)
end
end L2
namespace L2
open PySem PySem.Spec PyProof.Rows
abbrev W (α:Type):=Ev→(α→Ev→Prop)→Prop
inductive Fl where
 | nx | bk | ct | rt (r:L)
def EL (X:Cx) (pins:List (Addr×Obj)) (σ:St) (Pr:Hp) (post:L→Ev→Prop) (u:Value) (s':Shared):Prop :=
 ∃ v H' r ρ',Inv X pins σ H' s'∧RelV v u∧REnv X.K Pr H' (some v::σ) (r::ρ')∧post r ρ'
def PL (X:Cx) (e:Expr) (t:W L):Prop :=
 ∀ (pins:List (Addr×Obj)) (s:Shared) (σ:St) (H Pr:Hp) (ρ:Ev) (post:L→Ev→Prop),Inv X pins σ H s→REnv X.K Pr H σ ρ→t ρ post→wpAny (model X.prog X.w) X.A (eval e X.env) (EL X pins σ Pr post) X.xe s
def EB (X:Cx) (pins:List (Addr×Obj)) (σ:St) (Pr:Hp) (post:Bool→Ev→Prop) (b:Bool) (s':Shared):Prop :=
 ∃ H' ρ',Inv X pins σ H' s'∧REnv X.K Pr H' σ ρ'∧post b ρ'
def PB (X:Cx) (e:Expr) (t:W Bool):Prop :=
 ∀ (pins:List (Addr×Obj)) (s:Shared) (σ:St) (H Pr:Hp) (ρ:Ev) (post:Bool→Ev→Prop),Inv X pins σ H s→REnv X.K Pr H σ ρ→t ρ post→wpAny (model X.prog X.w) X.A (isTrue e X.env (eval e X.env)) (EB X pins σ Pr post) X.xe s
def EA (X:Cx) (pins:List (Addr×Obj)) (σ:St) (Pr:Hp) (bs:List (Option Nat)) (post:List L→Ev→Prop) (us:List Value) (s':Shared):Prop :=
 ∃ vs H' ls ρ',Inv X pins σ H' s'∧Vals vs us∧vs.length=ls.length∧vs.length=bs.length∧REnv X.K Pr H' (vs.map some++σ) (ls++ρ')∧(∀ (k i:Nat),bs[k]?=some (some i)→ls[k]?=some L.un∧∃ v,vs[k]?=some v∧σ[i]?=some (some v))∧post ls ρ'
def PAL (X:Cx) (es:List Expr) (bs:List (Option Nat)) (t:W (List L)):Prop :=
 ∀ (pos:Pos) (pins:List (Addr×Obj)) (s:Shared) (σ:St) (H Pr:Hp) (ρ:Ev) (post:List L→Ev→Prop),Inv X pins σ H s→REnv X.K Pr H σ ρ→t ρ post →
  wpAny (model X.prog X.w) X.A (spliced (backTo pos (starEach es X.env))) (EA X pins σ Pr bs post) X.xe s
def SM (X:Cx) (pins:List (Addr×Obj)) (Pr:Hp) (post:Fl→Ev→Prop) (f:Flow) (s':Shared):Prop :=
 match f with
 | .next=>∃ σ' H' ρ',Inv X pins σ' H' s'∧REnv X.K Pr H' σ' ρ'∧post .nx ρ'
 | .brk=>∃ σ' H' ρ',Inv X pins σ' H' s'∧REnv X.K Pr H' σ' ρ'∧post .bk ρ'
 | .cont=>∃ σ' H' ρ',Inv X pins σ' H' s'∧REnv X.K Pr H' σ' ρ'∧post .ct ρ'
 | .ret u=>∃ v σ' H' r ρ' τ,Inv X pins σ' H' s'∧RelV v u∧REnv X.K Pr H' (some v::τ) (r::ρ')∧post (.rt r) ρ'
def PM (X:Cx) (st:Stmt) (t:W Fl):Prop :=
 ∀ (pins:List (Addr×Obj)) (s:Shared) (σ:St) (H Pr:Hp) (ρ:Ev) (post:Fl→Ev→Prop),Inv X pins σ H s→REnv X.K Pr H σ ρ→t ρ post→wpAny (model X.prog X.w) X.A (exec st X.env) (SM X pins Pr post) X.xe s
def PMs (X:Cx) (st:List Stmt) (t:W Fl):Prop :=
 ∀ (pins:List (Addr×Obj)) (s:Shared) (σ:St) (H Pr:Hp) (ρ:Ev) (post:Fl→Ev→Prop),Inv X pins σ H s→REnv X.K Pr H σ ρ→t ρ post→wpAny (model X.prog X.w) X.A (execs st X.env) (SM X pins Pr post) X.xe s
section
variable {X:Cx} {e a b c:Expr} {es:List Expr} {pos:Pos} {ta tb tc:W L} {tA tB:W Bool}
theorem PL.of {t:TE} {u:W L} (h:PE X e t) (q:∀ σ H Pr ρ post,REnv X.K Pr H σ ρ→u ρ post→t σ H fun v H'=>∃ r ρ',REnv X.K Pr H' (some v::σ) (r::ρ')∧post r ρ'):PL X e u :=
 fun pins s σ H Pr ρ post I E hu=>thn (h pins s σ H _ I (q σ H Pr ρ post E hu)) fun u s1 ⟨v,H1,I1,r1,r,ρ',E1,p⟩=>⟨v,H1,r,ρ',I1,r1,E1,p⟩
mutual
def eraseL:L→Option D
 | .un=>none
 | .d x=>some x
 | .own _ xs=>some (.lst xs)
 | .bx none ls=>(eraseLs ls).map .tup
 | .bx (some _) ls=>(eraseLs ls).map .lst
 | .dic _ _=>none
def eraseLs:List L→Option (List D)
 | []=>some []
 | l::ls=>match eraseL l,eraseLs ls with
  | some x,some xs=>some (x::xs)
  | _,_=>none
end
def isSome':Option D→(D→Prop)→Prop
 | some x,k=>k x
 | none,_=>False
theorem isSome'_is {o:Option D} {k:D→Prop} (h:isSome' o k):∃ x,o=some x∧k x:=by
 cases o with
 | some x=>exact ⟨x,rfl,h⟩
 | none=>exact h.elim
def toDB (a:Option Addr) (ls:List L) (k:D→Prop):Prop:=isSome' (eraseL (.bx a ls)) k
def toD:L→(D→Prop)→Prop
 | .un,_=>False
 | .d x,k=>k x
 | .own _ xs,k=>k (.lst xs)
 | .bx a ls,k=>toDB a ls k
 | .dic _ _,_=>False
theorem toDB_is {a:Option Addr} {ls:List L} {k:D→Prop} (h:toDB a ls k):∃ x,eraseL (.bx a ls)=some x∧k x:=isSome'_is h
def eraK (ls:List L) (k:List D→Prop):Prop:=∃ xs,eraseLs ls=some xs∧k xs
theorem toDB_t (ls:List L) (k:D→Prop):toDB none ls k=eraK ls fun xs=>k (.tup xs):=by
 unfold toDB eraK
 simp only [eraseL]
 cases eraseLs ls with
 | none=>simp [isSome']
 | some xs=>simp [isSome']
theorem toDB_o (a:Addr) (ls:List L) (k:D→Prop):toDB (some a) ls k=eraK ls fun xs=>k (.lst xs):=by
 unfold toDB eraK
 simp only [eraseL]
 cases eraseLs ls with
 | none=>simp [isSome']
 | some xs=>simp [isSome']
theorem eraK_nil (k:List D→Prop):eraK [] k=k []:=by
 unfold eraK
 simp [eraseLs]
theorem toD_era (l:L) (k:D→Prop):toD l k=∃ x,eraseL l=some x∧k x:=by
 cases l with
 | un=>simp [toD,eraseL]
 | d x=>simp [toD,eraseL]
 | own a xs=>simp [toD,eraseL]
 | bx a ls =>
  show isSome' _ k=_
  cases eraseL (.bx a ls) with
  | none=>simp [isSome']
  | some x=>simp [isSome']
 | dic a kvs=>simp [toD,eraseL]
theorem eraK_cons (l:L) (ls:List L) (k:List D→Prop):eraK (l::ls) k=toD l fun x=>eraK ls fun xs=>k (x::xs):=by
 rw [toD_era]
 unfold eraK
 simp only [eraseLs]
 cases eraseL l with
 | none=>simp
 | some x =>
  cases eraseLs ls with
  | none=>simp
  | some xs=>simp
theorem slots_paired {K:PySem.W.Frag} {H:Hp}:∀ {vs:List V} {ls:List L},Slots K H vs ls↔Paired (Slot1 K H) (vs.map some) ls
 | [],[]=>⟨fun _=>.nil,fun _=>by simp only [Slots]⟩
 | v::vs,l::ls=>by
  simp only [Slots,List.map_cons]
  constructor
  ·
   rintro ⟨w,us,e,h1,h2⟩
   cases e
   exact .cons h1 (slots_paired.mp h2)
  ·
   intro h
   cases h with
   | cons q t=>exact ⟨v,vs,rfl,q,slots_paired.mpr t⟩
 | [],l::ls=>by
  simp only [Slots,List.map_nil]
  constructor
  ·
   rintro ⟨w,us,e,_⟩; cases e
  ·
   intro h; cases h
 | v::vs,[]=>by
  simp only [Slots,List.map_cons]
  constructor
  ·
   intro h; cases h
  ·
   intro h; cases h
theorem reps_at {K:PySem.W.Frag} {H:Hp}:∀ {vs:List V} {xs:List D},Paired (Slot1 K H) (vs.map some) (xs.map .d)→Reps K H vs xs
 | [],[],_=>.nil
 | v::vs,x::xs,h=>by
  simp only [List.map_cons] at h
  cases h with
  | cons q t =>
   simp only [Slot1] at q
   obtain ⟨w,e,r⟩:=q
   cases e
   exact .cons r (reps_at t)
 | [],_::_,h=>by simp only [List.map_cons,List.map_nil] at h; cases h
 | _::_,[],h=>by simp only [List.map_cons,List.map_nil] at h; cases h
theorem Slots.len {K:PySem.W.Frag} {H:Hp} {vs:List V} {ls:List L} (h:Slots K H vs ls):vs.length=ls.length:=by
 have:=Paired.length (slots_paired.mp h)
 simpa using this
theorem eraseLs_len:∀ {ls:List L} {xs:List D},eraseLs ls=some xs→xs.length=ls.length
 | [],_,h=>by simp [eraseLs] at h; subst h; rfl
 | l::ls,xs,h=>by
  simp only [eraseLs] at h
  split at h
  ·
   rename_i x ys h1 h2
   cases h
   simp [eraseLs_len h2]
  ·
   cases h
theorem REnv.openT {K:PySem.W.Frag} {Pr H:Hp} {σ:St} {ρ:Ev} {v:Option V} {ls:List L} (E:REnv K Pr H (v::σ) (.bx none ls::ρ)):∃ a vs,v=some (.ref a)∧SqT K H a vs∧vs.length=ls.length∧REnv K Pr H (vs.map some++σ) (ls++ρ):=by
 have sl:=E.sl
 cases sl with
 | cons q t =>
  simp only [Slot1] at q
  obtain ⟨a,vs,e,h,r⟩:=q
  have ow:owns (.bx none ls::ρ)=owns (ls++ρ):=by
   rw [owns_cons,owns_append]
   simp only [ownsL,Option.toList,List.nil_append,ownsLs_eq]
  exact ⟨a,vs,e,h,r.len,E.sub,by rw [← ow]; exact E.nd,fun b hb=>E.off b (by rw [ow]; exact hb),Paired.app (slots_paired.mp r) t⟩
theorem REnv.openO {K:PySem.W.Frag} {Pr H:Hp} {σ:St} {ρ:Ev} {v:Option V} {a:Addr} {ls:List L} (E:REnv K Pr H (v::σ) (.bx (some a) ls::ρ)):∃ vs,v=some (.ref a)∧H a=some (.lst vs)∧vs.length=ls.length∧a∉owns (ls++ρ)∧Pr a=none∧REnv K Pr H (vs.map some++σ) (ls++ρ):=by
 have sl:=E.sl
 cases sl with
 | cons q t =>
  simp only [Slot1] at q
  obtain ⟨e,vs,h,r⟩:=q
  have ow:owns (.bx (some a) ls::ρ)=a::owns (ls++ρ):=by
   rw [owns_cons,owns_append]
   simp only [ownsL,Option.toList,List.cons_append,List.nil_append,ownsLs_eq]
  have nd:=E.nd
  rw [ow] at nd
  obtain ⟨n1,n2⟩:=List.nodup_cons.mp nd
  exact ⟨vs,e,h,r.len,n1,E.off a (by rw [ow]; exact List.mem_cons_self),E.sub,n2,fun b hb=>E.off b (by rw [ow]; exact List.mem_cons_of_mem _ hb),Paired.app (slots_paired.mp r) t⟩
theorem owns_ds (xs:List D):owns (xs.map .d)=[]:=by
 induction xs with
 | nil=>rfl
 | cons x xs ih=>rw [List.map_cons,owns_cons,ih]; rfl
def Frozen (H H':Hp) (S:List Addr):Prop:=Pres H H'∧(∀ b,b∉S→H' b=H b)∧∀ a∈S,∀ vs,H a=some (.lst vs)→∃ o,H' a=some (.frz o (.lst vs))
theorem Frozen.refl (H:Hp):Frozen H H []:=⟨fun _ _ _ e=>e,fun _ _=>rfl,fun _ h=>by simp at h⟩
mutual
theorem frzL:∀ (l:L) {pins:List (Addr×Obj)} {σ0:St} {s:Shared} {Pr H:Hp} {σ:St} {ρ:Ev} {v:Option V} {x:D},Inv X pins σ0 H s→REnv X.K Pr H (v::σ) (l::ρ)→eraseL l=some x→∃ H',Inv X pins σ0 H' s∧REnv X.K Pr H' (v::σ) (.d x::ρ)∧Frozen H H' (ownsL l)
 | .un,_,_,_,_,_,_,_,_,_,_,_,h=>by simp [eraseL] at h
 | .dic _ _,_,_,_,_,_,_,_,_,_,_,_,h=>by simp [eraseL] at h
 | .d y,_,_,_,_,_,_,_,_,_,I,E,h=>by
  simp only [eraseL,Option.some.injEq] at h
  subst h
  exact ⟨_,I,E,Frozen.refl _⟩
 | .own a xs,_,_,_,_,H,σ,ρ,v,_,I,E,h=>by
  simp only [eraseL,Option.some.injEq] at h
  subst h
  have sl:=E.sl
  cases sl with
  | cons q t =>
   simp only [Slot1] at q
   obtain ⟨e0,vs,ha,r⟩:=q
   obtain ⟨o,I'⟩:=I.freezeL ha
   refine ⟨_,I',E.freeze ha o,fun b u pu eb=>?_,fun b hb=>?_,fun b hb vs' eb=>?_⟩
   ·
    rw [upd_ne]; exact eb
    rintro rfl
    rw [ha] at eb; cases eb; exact pu
   ·
    rw [upd_ne]
    rintro rfl
    exact hb (by simp [ownsL])
   ·
    have e:b=a:=by simpa [ownsL] using hb
    subst e
    rw [ha] at eb; cases eb
    exact ⟨o,upd_same⟩
 | .bx none ls,_,_,_,Pr,H,σ,ρ,v,x,I,E,h=>by
  simp only [eraseL,Option.map_eq_some_iff] at h
  obtain ⟨xs,h,rfl⟩:=h
  obtain ⟨a,vs,rfl,ha,hl,E1⟩:=E.openT
  obtain ⟨H',I',E',F⟩:=frzLs ls hl I E1 h
  have hxl:=eraseLs_len h
  obtain ⟨s1,s2⟩:=Paired.unapp (by simp [hl,hxl]) E'.sl
  refine ⟨H',I',(E'.drop (by simp [hl,hxl])).cons_d (.tup (ha.pres F.1) (reps_at s1)),F.1,fun b hb=>F.2.1 b ?_,fun b hb=>F.2.2 b ?_⟩
  ·
   simpa [ownsL,ownsLs_eq] using hb
  ·
   simpa [ownsL,ownsLs_eq] using hb
 | .bx (some a) ls,_,_,_,Pr,H,σ,ρ,v,x,I,E,h=>by
  simp only [eraseL,Option.map_eq_some_iff] at h
  obtain ⟨xs,h,rfl⟩:=h
  obtain ⟨vs,rfl,ha,hl,hn,hp,E1⟩:=E.openO
  obtain ⟨H',I',E',F⟩:=frzLs ls hl I E1 h
  have hxl:=eraseLs_len h
  have hal:a∉owns ls:=fun z=>hn (by rw [owns_append]; exact List.mem_append_left _ z)
  have haρ:a∉owns ρ:=fun z=>hn (by rw [owns_append]; exact List.mem_append_right _ z)
  have ha':H' a=some (.lst vs):=(F.2.1 a hal).trans ha
  obtain ⟨s1,s2⟩:=Paired.unapp (by simp [hl,hxl]) E'.sl
  have E2:=E'.drop (by simp [hl,hxl])
  have E3:REnv X.K Pr H' (some (.ref a)::σ) (.own a xs::ρ):=by
   refine ⟨E2.sub,?_,fun b hb=>?_,.cons ?_ E2.sl⟩
   ·
    rw [owns_cons_own]; exact List.nodup_cons.mpr ⟨haρ,E2.nd⟩
   ·
    rw [owns_cons_own] at hb
    rcases List.mem_cons.mp hb with z | z
    ·
     rw [z]; exact hp
    ·
     exact E2.off b z
   ·
    unfold Slot1
    exact ⟨rfl,vs,ha',reps_at s1⟩
  obtain ⟨o,I2⟩:=I'.freezeL ha'
  refine ⟨_,I2,E3.freeze ha' o,fun b u pu e=>?_,fun b hb=>?_,fun b hb vs' eb=>?_⟩
  ·
   rw [upd_ne]; exact F.1 b u pu e
   rintro rfl
   rw [ha] at e; cases e; exact pu
  ·
   have hb':b≠a∧b∉owns ls:=by simpa [ownsL,ownsLs_eq,not_or] using hb
   rw [upd_ne hb'.1]
   exact F.2.1 b hb'.2
  ·
   by_cases hba:b=a
   ·
    subst hba
    rw [ha] at eb; cases eb
    exact ⟨o,upd_same⟩
   ·
    have hb':b∈owns ls:=by
     rcases (by simpa [ownsL,ownsLs_eq] using hb:b=a∨b∈owns ls) with z | z
     ·
      exact absurd z hba
     ·
      exact z
    rw [upd_ne hba]
    exact F.2.2 b hb' vs' eb
theorem frzLs:∀ (ls:List L) {pins:List (Addr×Obj)} {σ0:St} {s:Shared} {Pr H:Hp} {σ:St} {ρ:Ev} {vs:List V} {xs:List D},vs.length=ls.length→Inv X pins σ0 H s→REnv X.K Pr H (vs.map some++σ) (ls++ρ)→eraseLs ls=some xs→∃ H',Inv X pins σ0 H' s∧REnv X.K Pr H' (vs.map some++σ) (xs.map .d++ρ)∧Frozen H H' (owns ls)
 | [],_,_,_,_,_,_,_,vs,xs,hl,I,E,h=>by
  simp only [eraseLs,Option.some.injEq] at h
  subst h
  cases vs with
  | nil=>exact ⟨_,I,E,Frozen.refl _⟩
  | cons _ _=>simp at hl
 | l::ls,_,_,_,Pr,H,σ,ρ,vs,xs,hl,I,E,h=>by
  simp only [eraseLs] at h
  split at h
  rotate_left
  ·
   cases h
  rename_i x ys h1 h2
  cases h
  cases vs with
  | nil=>simp at hl
  | cons v vs =>
   have hl':vs.length=ls.length:=by simpa using hl
   obtain ⟨H1,I1,E1,F1⟩:=frzL l I E h1
   have E2:REnv X.K (butOwn H1 (ls++ρ)) H1 (vs.map some++σ) (ls++ρ):=(E1.drop (τ:=[some v]) (lam:=[.d x]) rfl).wide
   obtain ⟨H2,I2,E3,F2⟩:=frzLs ls hl' I1 E2 h2
   have hyl:=eraseLs_len h2
   have E4:REnv X.K Pr H2 (some v::(vs.map some++σ)) (.d x::(ys.map .d++ρ)):=by
    have z:=REnv.step (τ:=[some v]) (lam:=[.d x]) (w:=[]) (μ:=[]) (σ':=vs.map some++σ) (ρ':=ys.map .d++ρ) E1 rfl E3 rfl
    exact z
   refine ⟨H2,I2,E4,fun b u pu e=>F2.1 b u pu (F1.1 b u pu e),fun b hb=>?_,fun b hb vs' eb=>?_⟩
   ·
    rw [owns_cons] at hb
    rw [F2.2.1 b (fun z=>hb (List.mem_append_right _ z)),F1.2.1 b (fun z=>hb (List.mem_append_left _ z))]
   ·
    rw [owns_cons] at hb
    rcases List.mem_append.mp hb with z | z
    ·
     obtain ⟨o,eo⟩:=F1.2.2 b z vs' eb
     exact ⟨o,F2.1 b _ True.intro eo⟩
    ·
     have hn:b∉ownsL l:=fun z'=>by
      have nd:=E.nd
      rw [List.cons_append,owns_cons,owns_append] at nd
      exact (List.nodup_append.mp nd).2.2 b z' b (List.mem_append_left _ z) rfl
     exact F2.2.2 b z vs' ((F1.2.1 b hn).trans eb)
end
theorem EL.frz {pins:List (Addr×Obj)} {σ:St} {Pr:Hp} {post:D→Ev→Prop} {u:Value} {s':Shared} (h:EL X pins σ Pr (fun r ρ=>toD r fun x=>post x ρ) u s') :
  ∃ v H' x ρ',Inv X pins σ H' s'∧RelV v u∧REnv X.K Pr H' (some v::σ) (.d x::ρ')∧post x ρ':=by
 obtain ⟨v,H',r,ρ',I,rv,E,p⟩:=h
 cases r with
 | un=>exact p.elim
 | d x=>exact ⟨v,H',x,ρ',I,rv,E,p⟩
 | own a xs =>
  obtain ⟨H2,I2,E2,_⟩:=frzL (.own a xs) I E rfl
  exact ⟨v,H2,.lst xs,ρ',I2,rv,E2,p⟩
 | bx a ls =>
  obtain ⟨x,ex,p⟩:=toDB_is p
  obtain ⟨H2,I2,E2,_⟩:=frzL (.bx a ls) I E ex
  exact ⟨v,H2,x,ρ',I2,rv,E2,p⟩
 | dic a kvs=>exact p.elim
def wFrz (t:W L):W L:=fun ρ post=>t ρ fun r ρ1=>toD r fun x=>post (.d x) ρ1
theorem pl_frz {t:W L} (h:PL X e t):PL X e (wFrz t):=fun pins s σ H Pr ρ post I E ht =>
 thn (h pins s σ H Pr ρ _ I E ht) fun u s1 q=>by
  obtain ⟨v,H',x,ρ',I',rv,E',p⟩:=EL.frz (post:=fun x ρ=>post (.d x) ρ) q
  exact ⟨v,H',.d x,ρ',I',rv,E',p⟩
theorem REnv.head_d {K:PySem.W.Frag} {Pr H:Hp} {v:Option V} {σ:St} {x:D} {ρ:Ev} (E:REnv K Pr H (v::σ) (.d x::ρ)):∃ w,v=some w∧Rep K H w x:=by
 have sl:=E.sl
 cases sl with
 | cons q t=>exact q
theorem REnv.tail {K:PySem.W.Frag} {Pr H:Hp} {v:Option V} {σ:St} {l:L} {ρ:Ev} (E:REnv K Pr H (v::σ) (l::ρ)):REnv K Pr H σ ρ:=REnv.drop (τ:=[v]) (lam:=[l]) E rfl
theorem two {pins:List (Addr×Obj)} {s:Shared} {σ:St} {H Pr:Hp} {ρ:Ev} {R:D→D→Ev→Prop} (ha:PL X a ta) (hb:PL X b tb) (I:Inv X pins σ H s) (E:REnv X.K Pr H σ ρ)
  (h:ta ρ fun x ρ1=>toD x fun dx=>tb ρ1 fun y ρ2=>toD y fun dy=>R dx dy ρ2) {α:Type} {Q:α→Shared→Prop} {f:Value→Value→Sem α}
  (hf:∀ v u s2 x y H2 dx dy ρ2,Inv X pins σ H2 s2→RelV x v→RelV y u→REnv X.K Pr H2 (some y::some x::σ) (.d dy::.d dx::ρ2)→Rep X.K H2 x dx→Rep X.K H2 y dy→R dx dy ρ2→wpAny (model X.prog X.w) X.A (f v u) Q X.xe s2) :
  wpAny (model X.prog X.w) X.A (eval a X.env) (fun v s₁=>wpAny (model X.prog X.w) X.A (eval b X.env) (fun u s₂=>wpAny (model X.prog X.w) X.A (f v u) Q X.xe s₂) X.xe s₁) X.xe s:=by
 refine thn (ha pins s σ H Pr ρ _ I E h) fun v s1 q=>?_
 obtain ⟨x,H1,dx,ρ1,I1,r1,E1,q1⟩:=EL.frz (post:=fun dx ρ1=>tb ρ1 fun y ρ2=>toD y fun dy=>R dx dy ρ2) q
 refine thn (hb pins s1 σ H1 _ ρ1 _ I1 E1.tail.wide q1) fun u s2 q=>?_
 obtain ⟨y,H2,dy,ρ2,I2,r2,E2,q2⟩:=EL.frz (post:=fun dy ρ2=>R dx dy ρ2) q
 have E3:REnv X.K Pr H2 (some y::some x::σ) (.d dy::.d dx::ρ2):=REnv.step (τ:=[some x]) (lam:=[.d dx]) (w:=[some y]) (μ:=[.d dy]) E1 rfl E2 rfl
 obtain ⟨_,e1,p1⟩:=E3.head_d
 obtain ⟨_,e2,p2⟩:=E3.tail.head_d
 cases e1
 cases e2
 exact hf v u s2 x y H2 dx dy ρ2 I2 r1 r2 E3 p2 p1 q2
abbrev Op2:=D→D→(L→Prop)→Prop
def OpD (X:Cx) (f:Value→Value→Sem Value) (op:Op2):Prop :=
 ∀ (pins:List (Addr×Obj)) (s:Shared) (σ:St) (H Pr:Hp) (ρ:Ev) (x y:V) (v u:Value) (dx dy:D) (post:L→Prop),Inv X pins σ H s→RelV x v→RelV y u→REnv X.K Pr H σ ρ→Rep X.K H x dx→Rep X.K H y dy→op dx dy post →
  wpAny (model X.prog X.w) X.A (f v u) (fun w s'=>∃ z H' r,Inv X pins σ H' s'∧RelV z w∧REnv X.K Pr H' (some z::σ) (r::ρ)∧post r) X.xe s
theorem OpD.of {f:Value→Value→Sem Value} {r:R2} {op:Op2} (h:OpR X f r) (q:∀ σ H Pr ρ x y dx dy post,REnv X.K Pr H σ ρ→Rep X.K H x dx→Rep X.K H y dy→op dx dy post→r x y H fun z H'=>∃ r,REnv X.K Pr H' (some z::σ) (r::ρ)∧post r):OpD X f op :=
 fun pins s σ H Pr ρ x y v u dx dy post I rx ry E px py ho=>thn (h pins s σ H x y v u _ I rx ry (q σ H Pr ρ x y dx dy post E px py ho)) fun w s' ⟨z,H',I',rz,r,E',p⟩=>⟨z,H',r,I',rz,E',p⟩
theorem OpD.or {f:Value→Value→Sem Value} {o1 o2:Op2} (h1:OpD X f o1) (h2:OpD X f o2):OpD X f (fun x y p=>o1 x y p∨o2 x y p) :=
 fun pins s σ H Pr ρ x y v u dx dy post I rx ry E px py ho=>ho.elim (h1 pins s σ H Pr ρ x y v u dx dy post I rx ry E px py) (h2 pins s σ H Pr ρ x y v u dx dy post I rx ry E px py)
theorem OpD.imp {f:Value→Value→Sem Value} {o1 o2:Op2} (h1:OpD X f o1) (h:∀ x y p,o2 x y p→o1 x y p):OpD X f o2 :=
 fun pins s σ H Pr ρ x y v u dx dy post I rx ry E px py ho=>h1 pins s σ H Pr ρ x y v u dx dy post I rx ry E px py (h _ _ _ ho)
def wBin (op:Op2) (ta tb:W L):W L:=fun ρ post=>ta ρ fun x ρ1=>toD x fun dx=>tb ρ1 fun y ρ2=>toD y fun dy=>op dx dy fun r=>post r ρ2
theorem pl_bin {op:Operator} {o:Op2} (ho:OpD X (binaryOp op) o) (ha:PL X a ta) (hb:PL X b tb):PL X (.BinOp a op b pos) (wBin o ta tb):=fun pins s σ H Pr ρ post I E h =>
 wpAny_BinOp (two (R:=fun dx dy ρ2=>o dx dy fun r=>post r ρ2) ha hb I E h fun v u s2 x y H2 dx dy ρ2 I2 r1 r2 E2 p1 p2 q =>
  thn (ho pins s2 σ H2 Pr ρ2 x y v u dx dy _ I2 r1 r2 E2.tail.tail p1 p2 q) fun w s3 ⟨z,H3,r,I3,rz,E3,p⟩=>⟨z,H3,r,ρ2,I3,rz,E3,p⟩)
theorem pl_cmp {op:CmpOp} {o:Op2} (ho:OpD X (compareOp op) o) (ha:PL X a ta) (hb:PL X b tb) (hm:behindInMarks op b=false):PL X (.Compare a [op] [b] pos) (wBin o ta tb):=fun pins s σ H Pr ρ post I E h =>
 wpAny_Compare1 (two (R:=fun dx dy ρ2=>o dx dy fun r=>post r ρ2) ha hb I E h fun v u s2 x y H2 dx dy ρ2 I2 r1 r2 E2 p1 p2 q =>
  thn (ho pins s2 σ H2 Pr ρ2 x y v u dx dy _ I2 r1 r2 E2.tail.tail p1 p2 q) fun w s3 ⟨z,H3,r,I3,rz,E3,p⟩=>⟨z,H3,r,ρ2,I3,rz,E3,p⟩) hm
def wC (x:D):W L:=fun ρ post=>post (.d x) ρ
theorem pl_int {i j pos}:PL X (.Constant (.int i) j pos) (wC (.int i)):=PL.of pe_int fun σ H Pr ρ post E h=>⟨_,_,E.cons_d (.int i),h⟩
theorem pl_bl {b j pos}:PL X (.Constant (.bool b) j pos) (wC (.bl b)):=PL.of pe_bl fun σ H Pr ρ post E h=>⟨_,_,E.cons_d (.bl b),h⟩
theorem pl_non {j pos}:PL X (.Constant .none j pos) (wC .non):=PL.of pe_non fun σ H Pr ρ post E h=>⟨_,_,E.cons_d .non,h⟩
theorem pl_str {x j pos}:PL X (.Constant (.str x) j pos) (wC (.str x)):=PL.of pe_str fun σ H Pr ρ post E h=>⟨_,_,E.cons_d (.str x),h⟩
def varW (o:Option L) (i:Nat) (ρ:Ev) (post:L→Ev→Prop):Prop:=match o with
 | some (.d x)=>post (.d x) ρ
 | some (.own _ xs)=>post (.d (.lst xs)) (ρ.set i (.d (.lst xs)))
 | some (.bx a ls)=>toDB a ls fun x=>post (.d x) (ρ.set i (.d x))
 | _=>False
def wVar (i:Nat):W L:=fun ρ post=>varW ρ[i]? i ρ post
theorem varW_d (x:D) (i:Nat) (ρ:Ev) (post:L→Ev→Prop):varW (some (.d x)) i ρ post=post (.d x) ρ:=(rfl)
theorem varW_own (a:Addr) (xs:List D) (i:Nat) (ρ:Ev) (post:L→Ev→Prop):varW (some (.own a xs)) i ρ post=post (.d (.lst xs)) (ρ.set i (.d (.lst xs))):=(rfl)
theorem varW_bx (a:Option Addr) (ls:List L) (i:Nat) (ρ:Ev) (post:L→Ev→Prop):varW (some (.bx a ls)) i ρ post=toDB a ls fun x=>post (.d x) (ρ.set i (.d x)):=(rfl)
theorem REnv.slot {K:PySem.W.Frag} {Pr H:Hp} {σ:St} {ρ:Ev} {i:Nat} {l:L} (E:REnv K Pr H σ ρ) (h:ρ[i]?=some l):∃ s,σ[i]?=some s∧Slot1 K H s l:=Paired.get2 E.sl h
theorem pl_var (i:Nat) {x:Str} {pos:Pos} (hN:X.N[i]?=some x:=by rfl) (hv:Vis X.env.scope x:=by first | exact Or.inl rfl | exact Or.inr (Or.inl rfl) | exact Or.inr (Or.inr rfl)) (hd:(x == ("__debug__" : Str))=false:=by decide)
  (hcd:(x == ("__classdict__" : Str))=false:=by decide):PL X (.Name x pos) (wVar i):=by
 intro pins s σ H Pr ρ post I E h
 unfold wVar varW at h
 cases q:ρ[i]? with
 | none=>rw [q] at h; exact h.elim
 | some l =>
  rw [q] at h
  obtain ⟨sv,hs,sl⟩:=E.slot q
  cases l with
  | un=>exact h.elim
  | dic a kvs=>exact h.elim
  | d y =>
   obtain ⟨v,rfl,r⟩:=sl
   exact thn (pe_var hN hv hd hcd pins s σ H (fun w H'=>w=v∧H'=H) I ⟨v,hs,rfl,rfl⟩) fun u s1 ⟨w,H1,I1,r1,e1,e2⟩=>by
    subst e1 e2
    exact ⟨w,H1,_,ρ,I1,r1,E.cons_d r,h⟩
  | own a xs =>
   obtain ⟨rfl,vs,ha,r⟩:=sl
   refine thn (pe_var hN hv hd hcd pins s σ H (fun w H'=>w=.ref a∧H'=H) I ⟨.ref a,hs,rfl,rfl⟩) fun u s1 ⟨w,H1,I1,r1,e1,e2⟩=>?_
   subst e1 e2
   obtain ⟨o,I2⟩:=I1.freezeL ha
   have E2:=(E.out q).freeze ha o
   have hi:i < ρ.length:=(List.getElem?_eq_some_iff.mp q).1
   have E3:=E2.back (i:=i) (by simp [hi]) hs
   rw [List.set_set] at E3
   obtain ⟨_,e,p⟩:=E2.head_d
   cases e
   exact ⟨_,_,_,_,I2,r1,E3.cons_d p,h⟩
  | bx a ls =>
   obtain ⟨y,ey,h⟩:=toDB_is h
   have hv':∃ b,sv=some (.ref b):=by
    cases a with
    | none=>simp only [Slot1] at sl; obtain ⟨b,_,e,_⟩:=sl; exact ⟨b,e⟩
    | some b=>simp only [Slot1] at sl; exact ⟨b,sl.1⟩
   obtain ⟨b,rfl⟩:=hv'
   refine thn (pe_var hN hv hd hcd pins s σ H (fun w H'=>w=.ref b∧H'=H) I ⟨.ref b,hs,rfl,rfl⟩) fun u s1 ⟨w,H1,I1,r1,e1,e2⟩=>?_
   subst e1 e2
   obtain ⟨H2,I2,E2,_⟩:=frzL (.bx a ls) I1 (E.outL q hs) ey
   have hi:i < ρ.length:=(List.getElem?_eq_some_iff.mp q).1
   have E3:=E2.back (i:=i) (by simp [hi]) hs
   rw [List.set_set] at E3
   obtain ⟨_,e,p⟩:=E2.head_d
   cases e
   exact ⟨_,_,_,_,I2,r1,E3.cons_d p,h⟩
def movW (o:Option L) (i:Nat) (ρ:Ev) (post:L→Ev→Prop):Prop:=match o with
 | some (.d x)=>post (.d x) ρ
 | some (.own a xs)=>post (.own a xs) (ρ.set i .un)
 | some (.bx a ls)=>post (.bx a ls) (ρ.set i .un)
 | _=>False
def wMove (i:Nat):W L:=fun ρ post=>movW ρ[i]? i ρ post
theorem movW_d (x:D) (i:Nat) (ρ:Ev) (post:L→Ev→Prop):movW (some (.d x)) i ρ post=post (.d x) ρ:=(rfl)
theorem movW_own (a:Addr) (xs:List D) (i:Nat) (ρ:Ev) (post:L→Ev→Prop):movW (some (.own a xs)) i ρ post=post (.own a xs) (ρ.set i .un):=(rfl)
theorem movW_bx (a:Option Addr) (ls:List L) (i:Nat) (ρ:Ev) (post:L→Ev→Prop):movW (some (.bx a ls)) i ρ post=post (.bx a ls) (ρ.set i .un):=(rfl)
theorem pl_move (i:Nat) {x:Str} {pos:Pos} (hN:X.N[i]?=some x:=by rfl) (hv:Vis X.env.scope x:=by first | exact Or.inl rfl | exact Or.inr (Or.inl rfl) | exact Or.inr (Or.inr rfl)) (hd:(x == ("__debug__" : Str))=false:=by decide)
  (hcd:(x == ("__classdict__" : Str))=false:=by decide):PL X (.Name x pos) (wMove i):=by
 intro pins s σ H Pr ρ post I E h
 unfold wMove movW at h
 cases q:ρ[i]? with
 | none=>rw [q] at h; exact h.elim
 | some l =>
  rw [q] at h
  obtain ⟨sv,hs,sl⟩:=E.slot q
  cases l with
  | un=>exact h.elim
  | dic a kvs=>exact h.elim
  | d y =>
   obtain ⟨v,rfl,r⟩:=sl
   exact thn (pe_var hN hv hd hcd pins s σ H (fun w H'=>w=v∧H'=H) I ⟨v,hs,rfl,rfl⟩) fun u s1 ⟨w,H1,I1,r1,e1,e2⟩=>by
    subst e1 e2
    exact ⟨w,H1,_,ρ,I1,r1,E.cons_d r,h⟩
  | own a xs =>
   obtain ⟨rfl,vs,ha,r⟩:=sl
   refine thn (pe_var hN hv hd hcd pins s σ H (fun w H'=>w=.ref a∧H'=H) I ⟨.ref a,hs,rfl,rfl⟩) fun u s1 ⟨w,H1,I1,r1,e1,e2⟩=>?_
   subst e1 e2
   exact ⟨_,_,_,_,I1,r1,E.out q,h⟩
  | bx a ls =>
   have hv':∃ b,sv=some (.ref b):=by
    cases a with
    | none=>simp only [Slot1] at sl; obtain ⟨b,_,e,_⟩:=sl; exact ⟨b,e⟩
    | some b=>simp only [Slot1] at sl; exact ⟨b,sl.1⟩
   obtain ⟨b,rfl⟩:=hv'
   refine thn (pe_var hN hv hd hcd pins s σ H (fun w H'=>w=.ref b∧H'=H) I ⟨.ref b,hs,rfl,rfl⟩) fun u s1 ⟨w,H1,I1,r1,e1,e2⟩=>?_
   subst e1 e2
   exact ⟨_,_,_,_,I1,r1,E.outL q hs,h⟩
theorem pl_glob {x:Str} {v:V} {u:Value} {y:D} {pos:Pos} (hg:Gl X x) (hm:X.mg x=some u) (r:RelV v u) (hy:∀ H,Rep X.K H v y) (hd:(x == ("__debug__" : Str))=false:=by decide):PL X (.Name x pos) (wC y) :=
 PL.of (pe_glob hg hm r hd) fun σ H Pr ρ post E h=>⟨_,_,E.cons_d (hy H),h⟩
def isBl:L→(Bool→Prop)→Prop
 | .d (.bl b),k=>k b
 | _,_=>False
def wTest (t:W L):W Bool:=fun ρ post=>t ρ fun r ρ1=>isBl r fun b=>post b ρ1
theorem isBl_is {r:L} {k:Bool→Prop} (h:isBl r k):∃ b,r=.d (.bl b)∧k b:=by
 cases r with
 | d x=>cases x with
  | bl b=>exact ⟨b,rfl,h⟩
  | _=>exact h.elim
 | _=>exact h.elim
theorem pb_val {t:W L} (h:PL X e t) (he:∀ whole,isTrue e X.env whole=(do let v ← whole; standAt e.pos; holding [v] (truthy v)):=by intro _; rfl):PB X e (wTest t):=by
 intro pins s σ H Pr ρ post I E ht
 rw [he]
 refine wpAny_bind (thn (h pins s σ H Pr ρ _ I E ht) fun u s1 ⟨v,H1,r,ρ1,I1,rv,E1,p⟩=>wpAny_bind (wpAny_standAt (wpAny_holding ?_)))
 obtain ⟨b,rfl,p⟩:=isBl_is p
 obtain ⟨_,e1,p1⟩:=E1.head_d
 cases e1
 cases p1
 cases rv
 exact wpAny_truthy_bool ⟨H1,ρ1,I1,E1.tail,p⟩
end
end L2
namespace L2
open PySem PySem.Spec PyProof.Rows
section
variable {X:Cx} {e a b c:Expr} {es rest:List Expr} {pos:Pos} {ta tb tc:W L} {tA tB:W Bool}
def PBw (X:Cx) (e:Expr) (t:W Bool):Prop :=
 ∀ (whole:Sem Value) (pins:List (Addr×Obj)) (s:Shared) (σ:St) (H Pr:Hp) (ρ:Ev) (post:Bool→Ev→Prop),Inv X pins σ H s→REnv X.K Pr H σ ρ→t ρ post→wpAny (model X.prog X.w) X.A (isTrue e X.env whole) (EB X pins σ Pr post) X.xe s
theorem PBw.pb {t:W Bool} (h:PBw X e t):PB X e t:=h _
def wAnd (t u:W Bool):W Bool:=fun ρ post=>t ρ fun c ρ1=>if c=true then u ρ1 post else post false ρ1
def wOr (t u:W Bool):W Bool:=fun ρ post=>t ρ fun c ρ1=>if c=true then post true ρ1 else u ρ1 post
def wNot (t:W Bool):W Bool:=fun ρ post=>t ρ fun c ρ1=>post (!c) ρ1
theorem pbw_and1 (ha:PB X a tA):PBw X (.BoolOp .And [a] pos) tA:=by
 intro wh pins s σ H Pr ρ post I E h
 refine isTrue_and (thn (ha pins s σ H Pr ρ post I E h) fun c s1 e=>?_)
 cases c with
 | true=>exact isTrue_and_nil e
 | false=>exact e
theorem pbw_or1 (ha:PB X a tA):PBw X (.BoolOp .Or [a] pos) tA:=by
 intro wh pins s σ H Pr ρ post I E h
 refine isTrue_or (thn (ha pins s σ H Pr ρ post I E h) fun c s1 e=>?_)
 cases c with
 | false=>exact isTrue_or_nil e
 | true=>exact e
theorem pbw_and (ha:PB X a tA) (hb:PBw X (.BoolOp .And (b::rest) pos) tB):PBw X (.BoolOp .And (a::b::rest) pos) (wAnd tA tB):=by
 intro wh pins s σ H Pr ρ post I E h
 refine isTrue_and (thn (ha pins s σ H Pr ρ _ I E h) fun c s1 ⟨H1,ρ1,I1,E1,q1⟩=>?_)
 cases c with
 | true=>exact hb wh pins s1 σ H1 Pr ρ1 post I1 E1 q1
 | false=>exact ⟨H1,ρ1,I1,E1,q1⟩
theorem pbw_or (ha:PB X a tA) (hb:PBw X (.BoolOp .Or (b::rest) pos) tB):PBw X (.BoolOp .Or (a::b::rest) pos) (wOr tA tB):=by
 intro wh pins s σ H Pr ρ post I E h
 refine isTrue_or (thn (ha pins s σ H Pr ρ _ I E h) fun c s1 ⟨H1,ρ1,I1,E1,q1⟩=>?_)
 cases c with
 | true=>exact ⟨H1,ρ1,I1,E1,q1⟩
 | false=>exact hb wh pins s1 σ H1 Pr ρ1 post I1 E1 q1
theorem pb_not (ha:PB X a tA):PB X (.UnaryOp .Not a pos) (wNot tA):=by
 intro pins s σ H Pr ρ post I E h
 exact isTrue_not (ha pins s σ H Pr ρ (fun c ρ1=>post (!c) ρ1) I E h)
theorem pbc {op:CmpOp} {o:Op2} (ho:OpD X (compareOp op) o) (ha:PL X a ta) (hb:PL X b tb) (hm:behindInMarks op b=false):PB X (.Compare a [op] [b] pos) (wTest (wBin o ta tb)):=by
 intro pins s σ H Pr ρ post I E h
 refine wpAny_isTrue_Compare1 (two (R:=fun dx dy ρ2=>o dx dy fun r=>isBl r fun b=>post b ρ2) ha hb I E h fun v u s2 x y H2 dx dy ρ2 I2 r1 r2 E2 p1 p2 q=>?_) hm
 refine thn (ho pins s2 σ H2 Pr ρ2 x y v u dx dy _ I2 r1 r2 E2.tail.tail p1 p2 q) fun w s3 ⟨z,H3,r,I3,rz,E3,p⟩=>?_
 obtain ⟨b,rfl,p⟩:=isBl_is p
 obtain ⟨_,e1,p1⟩:=E3.head_d
 cases e1
 cases p1
 cases rz
 exact wpAny_truthy_bool ⟨H3,ρ2,I3,E3.tail,p⟩
def wAndV (ta tb:W L):W L:=fun ρ post=>ta ρ fun r ρ1=>isBl r fun c=>if c=true then tb ρ1 post else post (.d (.bl false)) ρ1
def wNotV (t:W Bool):W L:=fun ρ post=>t ρ fun c ρ1=>post (.d (.bl (!c))) ρ1
theorem pl_one {op} {t:W L} (h:PL X a t):PL X (.BoolOp op [a] pos) t:=fun pins s σ H Pr ρ post I E hw=>BoolOp_one (h pins s σ H Pr ρ post I E hw)
theorem EL.bl {pins:List (Addr×Obj)} {σ:St} {Pr:Hp} {post:Bool→Ev→Prop} {u:Value} {s':Shared} (h:EL X pins σ Pr (fun r ρ=>isBl r fun b=>post b ρ) u s') :
  ∃ H' b ρ',u=.bool b∧Inv X pins σ H' s'∧REnv X.K Pr H' σ ρ'∧post b ρ':=by
 obtain ⟨v,H',r,ρ',I,rv,E,p⟩:=h
 obtain ⟨b,rfl,p⟩:=isBl_is p
 obtain ⟨_,e1,p1⟩:=E.head_d
 cases e1
 cases p1
 cases rv
 exact ⟨H',b,ρ',rfl,I,E.tail,p⟩
theorem pl_and (ha:PL X a ta) (hb:PL X (.BoolOp .And (b::rest) pos) tb):PL X (.BoolOp .And (a::b::rest) pos) (wAndV ta tb):=by
 intro pins s σ H Pr ρ post I E h
 refine BoolOp_and (thn (ha pins s σ H Pr ρ _ I E h) fun v s1 q=>?_)
 obtain ⟨H1,c,ρ1,rfl,I1,E1,q1⟩:=EL.bl (post:=fun c ρ1=>if c=true then tb ρ1 post else post (.d (.bl false)) ρ1) q
 refine wpAny_truthy_bool ?_
 cases c with
 | true=>exact hb pins s1 σ H1 Pr ρ1 post I1 E1 q1
 | false=>exact ⟨.bl false,H1,_,ρ1,I1,rfl,E1.cons_d (.bl false),q1⟩
theorem pl_not (ha:PL X a ta):PL X (.UnaryOp .Not a pos) (wNotV (wTest ta)):=by
 intro pins s σ H Pr ρ post I E h
 refine UnaryOp_ (thn (ha pins s σ H Pr ρ _ I E h) fun v s1 q=>?_)
 obtain ⟨H1,c,ρ1,rfl,I1,E1,q1⟩:=EL.bl (post:=fun c ρ1=>post (.d (.bl (!c))) ρ1) q
 exact not_of (wpAny_truthy_bool ⟨.bl (!c),H1,_,ρ1,I1,rfl,E1.cons_d (.bl _),q1⟩)
def wUn (op:D→(L→Prop)→Prop) (t:W L):W L:=fun ρ post=>t ρ fun x ρ1=>toD x fun dx=>op dx fun r=>post r ρ1
variable {st:Stmt} {sts:List Stmt} {t u:W Fl}
def wNext:W Fl:=fun ρ post=>post .nx ρ
def wSeq (t u:W Fl):W Fl:=fun ρ post=>t ρ fun f ρ1=>match f with
 | .nx=>u ρ1 post
 | f=>post f ρ1
theorem pms_nil:PMs X [] wNext:=fun _ _ σ H Pr ρ post I E h=>wpAny_execs_nil ⟨σ,H,ρ,I,E,h⟩
theorem pms_cons (h1:PM X st t) (h2:PMs X sts u):PMs X (st::sts) (wSeq t u):=by
 intro pins s σ H Pr ρ post I E h
 refine wpAny_execs_cons (thn (h1 pins s σ H Pr ρ _ I E h) fun f s1 q=>?_)
 cases f with
 | next =>
  obtain ⟨σ',H',ρ',I',E',q⟩:=q
  exact h2 pins s1 σ' H' Pr ρ' post I' E' q
 | ret v=>exact q
 | brk=>exact q
 | cont=>exact q
theorem pms_one (h1:PM X st t):PMs X [st] t:=by
 intro pins s σ H Pr ρ post I E h
 refine wpAny_execs_cons (thn (h1 pins s σ H Pr ρ _ I E h) fun f s1 q=>?_)
 cases f with
 | next=>exact wpAny_execs_nil q
 | ret v=>exact q
 | brk=>exact q
 | cont=>exact q
def wDrop (t:W L):W Fl:=fun ρ post=>t ρ fun _ ρ1=>post .nx ρ1
theorem pm_expr {te:W L} (he:PL X e te) (hs:swapsWith e none pos.line X.env=pure false:=by rfl):PM X (.Expr e pos) (wDrop te):=by
 intro pins s σ H Pr ρ post I E h
 exact wpAny_Expr_any (thn (he pins s σ H Pr ρ _ I E h) fun v s1 ⟨x,H1,r,ρ1,I1,r1,E1,q1⟩=>⟨σ,H1,ρ1,I1,E1.tail,q1⟩) I.quiet hs
def wRet (t:W L):W Fl:=fun ρ post=>t ρ fun r ρ1=>post (.rt r) ρ1
theorem pm_ret {te:W L} (he:PL X e te):PM X (.Return (some e) pos) (wRet te):=by
 intro pins s σ H Pr ρ post I E h
 exact wpAny_Return_some (thn (he pins s σ H Pr ρ _ I E h) fun v s1 ⟨x,H1,r,ρ1,I1,r1,E1,q1⟩=>⟨x,σ,H1,r,ρ1,σ,I1,r1,E1,q1⟩)
def wIf (c:W Bool) (t u:W Fl):W Fl:=fun ρ post=>c ρ fun b ρ1=>if b=true then t ρ1 post else u ρ1 post
theorem pm_if {sa sb:List Stmt} (hc:PB X c tA) (ha:PMs X sa t) (hb:PMs X sb u):PM X (.If c sa sb pos) (wIf tA t u):=by
 intro pins s σ H Pr ρ post I E h
 refine wpAny_If (thn (hc pins s σ H Pr ρ _ I E h) fun d s1 ⟨H1,ρ1,I1,E1,q1⟩=>?_)
 cases d with
 | true=>exact ha pins s1 σ H1 Pr ρ1 post I1 E1 q1
 | false=>exact hb pins s1 σ H1 Pr ρ1 post I1 E1 q1
theorem REnv.forget {K:PySem.W.Frag} {Pr H:Hp} {σ:St} {ρ:Ev} (E:REnv K Pr H σ ρ) (i:Nat) (v:Option V):REnv K Pr H (σ.set i v) (ρ.set i .un):=by
 have hsub:(owns (ρ.set i .un)).Sublist (owns ρ):=by
  have:∀ (ρ:Ev) (i:Nat),(owns (ρ.set i .un)).Sublist (owns ρ):=by
   intro ρ
   induction ρ with
   | nil=>intro i; exact List.Sublist.refl _
   | cons l ρ ih =>
    intro i
    cases i with
    | zero =>
     show (owns ρ).Sublist (owns (l::ρ))
     rw [owns_cons]; exact List.sublist_append_right _ _
    | succ i =>
     show (owns (l::ρ.set i .un)).Sublist (owns (l::ρ))
     rw [owns_cons,owns_cons]
     exact (List.Sublist.refl _).append (ih i)
  exact this ρ i
 exact ⟨E.sub,E.nd.sublist hsub,fun a h=>E.off a (hsub.subset h),Paired.set2 True.intro i E.sl⟩
theorem REnv.store {K:PySem.W.Frag} {Pr H:Hp} {σ:St} {ρ:Ev} {v:Option V} {l:L} (E:REnv K Pr H (v::σ) (l::ρ)) {i:Nat} (hi:i < σ.length):REnv K Pr H (σ.set i v) (ρ.set i l):=by
 have E1:=E.forget (i+1) v
 have E2:REnv K Pr H (v::σ.set i v) (l::ρ.set i .un):=E1
 have hl:=E.tail.len
 have E3:=E2.back (i:=i) (by rw [List.getElem?_set_self (by omega)]) (by rw [List.getElem?_set_self hi])
 rw [List.set_set] at E3
 exact E3
def wSet (i:Nat) (t:W L):W Fl:=fun ρ post=>t ρ fun r ρ1=>post .nx (ρ1.set i r)
theorem pm_set {i:Nat} {x:Str} {te:W L} {pos':Pos} (hN:X.N.Nodup) (hi:X.N[i]?=some x) (hx:Loc X.env.scope x) (he:PL X e te) (hs:swapsWith e (some (.Name x pos')) pos.line X.env=pure false:=by rfl) (hf:X.fn x=true∨X.env.scope.names.lookup x=some .local:=by first | exact .inl rfl | exact .inr rfl | assumption) :
  PM X (.Assign [.Name x pos'] e pos) (wSet i te):=by
 intro pins s σ H Pr ρ post I E h
 refine wpAny_Assign_Name (thn (he pins s σ H Pr ρ _ I E h) fun v s1 ⟨y,H1,r,ρ1,I1,r1,E1,q1⟩=>?_) hs
 exact store_ok I1 hN hi hx r1 (fun s2 I2=>⟨_,H1,_,I2,E1.store (by rw [I1.len]; exact (List.getElem?_eq_some_iff.mp hi).1),q1⟩) hf
end
end L2
namespace L2
open PySem PySem.Spec PyProof.Rows
theorem owns_perm {a b:Ev} (h:a.Perm b):(owns a).Perm (owns b):=by
 induction h with
 | nil=>exact .refl _
 | cons x _ ih=>rw [owns_cons,owns_cons]; exact ih.append_left _
 | swap x y l =>
  rw [owns_cons,owns_cons,owns_cons,owns_cons,← List.append_assoc,← List.append_assoc]
  exact List.Perm.append_right _ List.perm_append_comm
 | trans _ _ h1 h2=>exact h1.trans h2
theorem owns_sub {a b:Ev} (h:a.Sublist b):(owns a).Sublist (owns b):=by
 induction h with
 | slnil=>exact .refl _
 | cons x _ ih=>rw [owns_cons]; exact ih.trans (List.sublist_append_right _ _)
 | cons_cons x _ ih=>rw [owns_cons,owns_cons]; exact (List.Sublist.refl _).append ih
def tL (K:PySem.W.Frag) (t:W L):TE:=fun σ H Q=>∃ Pr ρ post,REnv K Pr H σ ρ∧t ρ post∧∀ v H' r ρ',REnv K Pr H' (some v::σ) (r::ρ')→post r ρ'→Q v H'
def tW (K:PySem.W.Frag) (t:W Fl):TS:=fun D σ H=>∃ Pr ρ post,REnv K Pr H σ ρ∧t ρ post∧(∀ σ' H' ρ',REnv K Pr H' σ' ρ'→post .nx ρ'→D.nx σ' H')∧(∀ σ' H' ρ',REnv K Pr H' σ' ρ'→post .bk ρ'→D.bk σ' H')∧(∀ σ' H' ρ',REnv K Pr H' σ' ρ'→post .ct ρ'→D.ct σ' H') ∧
 ∀ v τ H' r ρ',REnv K Pr H' (some v::τ) (r::ρ')→post (.rt r) ρ'→D.rt v H'
def tWb (K:PySem.W.Frag) (t:W Bool):TT:=fun σ H Q=>∃ Pr ρ post,REnv K Pr H σ ρ∧t ρ post∧∀ b H' ρ',REnv K Pr H' σ ρ'→post b ρ'→Q b H'
section
variable {X:Cx} {e a b c:Expr} {es rest:List Expr} {pos:Pos} {ta tb tc:W L} {tA tB:W Bool} {st:Stmt} {sts:List Stmt} {t u:W Fl}
theorem PL.pe {t:W L} (h:PL X e t):PE X e (tL X.K t):=fun pins s σ H Q I ⟨Pr,ρ,post,E,ht,q⟩ =>
 thn (h pins s σ H Pr ρ post I E ht) fun u s1 ⟨v,H1,r,ρ1,I1,rv,E1,p⟩=>⟨v,H1,I1,rv,q v H1 r ρ1 E1 p⟩
theorem PB.pt {t:W Bool} (h:PB X e t):PT X e (tWb X.K t):=fun pins s σ H Q I ⟨Pr,ρ,post,E,ht,q⟩ =>
 thn (h pins s σ H Pr ρ post I E ht) fun b s1 ⟨H1,ρ1,I1,E1,p⟩=>⟨H1,I1,q b H1 ρ1 E1 p⟩
theorem PMs.pss (h:PMs X sts t):PSs X sts (tW X.K t):=fun pins s σ H D I ⟨Pr,ρ,post,E,ht,q1,q2,q3,q4⟩ =>
 thn (h pins s σ H Pr ρ post I E ht) fun f s1 q=>by
  cases f with
  | next=>obtain ⟨σ',H',ρ',I',E',p⟩:=q; exact ⟨σ',H',I',q1 σ' H' ρ' E' p⟩
  | brk=>obtain ⟨σ',H',ρ',I',E',p⟩:=q; exact ⟨σ',H',I',q2 σ' H' ρ' E' p⟩
  | cont=>obtain ⟨σ',H',ρ',I',E',p⟩:=q; exact ⟨σ',H',I',q3 σ' H' ρ' E' p⟩
  | ret u=>obtain ⟨v,σ',H',r,ρ',τ,I',rv,E',p⟩:=q; exact ⟨v,σ',H',I',rv,q4 v τ H' r ρ' E' p⟩
def endsOf (K:PySem.W.Frag) (Pr:Hp) (post:Fl→Ev→Prop):Ends where
 nx:=fun σ' H'=>∃ ρ',REnv K Pr H' σ' ρ'∧post .nx ρ'
 rt:=fun v H'=>∃ τ r ρ',REnv K Pr H' (some v::τ) (r::ρ')∧post (.rt r) ρ'
 bk:=fun σ' H'=>∃ ρ',REnv K Pr H' σ' ρ'∧post .bk ρ'
 ct:=fun σ' H'=>∃ ρ',REnv K Pr H' σ' ρ'∧post .ct ρ'
theorem PM.of {ts:TS} (h:PS X st ts) (q:∀ σ H Pr ρ post,σ.length=X.N.length→REnv X.K Pr H σ ρ→t ρ post→ts (endsOf X.K Pr post) σ H):PM X st t:=fun pins s σ H Pr ρ post I E ht =>
 thn (h pins s σ H _ I (q σ H Pr ρ post I.len E ht)) fun f s1 q=>by
  cases f with
  | next=>obtain ⟨σ',H',I',ρ',E',p⟩:=q; exact ⟨σ',H',ρ',I',E',p⟩
  | brk=>obtain ⟨σ',H',I',ρ',E',p⟩:=q; exact ⟨σ',H',ρ',I',E',p⟩
  | cont=>obtain ⟨σ',H',I',ρ',E',p⟩:=q; exact ⟨σ',H',ρ',I',E',p⟩
  | ret u=>obtain ⟨v,σ',H',I',rv,τ,r,ρ',E',p⟩:=q; exact ⟨v,σ',H',r,ρ',τ,I',rv,E',p⟩
theorem REnv.narrow {K:PySem.W.Frag} {Pr H1 H:Hp} {σ1 σ:St} {ρ1 ρ:Ev} (E1:REnv K Pr H1 σ1 ρ1) (E:REnv K (butOwn H1 ρ1) H σ ρ):REnv K Pr H σ ρ:=by
 refine ⟨fun b o e=>E.sub b o ?_,E.nd,fun a ha=>?_,E.sl⟩
 ·
  unfold butOwn
  rw [if_neg,E1.sub b o e]
  intro hm
  have z:=E1.off b hm
  rw [e] at z
  cases z
 ·
  have z:=E.off a ha
  unfold butOwn at z
  by_cases hm:a∈owns ρ1
  ·
   exact E1.off a hm
  ·
   rw [if_neg hm] at z
   cases q:Pr a with
   | none=>rfl
   | some o=>rw [E1.sub a o q] at z; cases z
def aNil:W (List L):=fun ρ post=>post [] ρ
def aVal (t:W L) (r:W (List L)):W (List L):=fun ρ post=>t ρ fun x ρ1=>r ρ1 fun xs ρ2=>post (x::xs) ρ2
def aVar (i:Nat) (r:W (List L)):W (List L):=fun ρ post=>match ρ[i]? with
 | some (.own _ _)=>r ρ fun xs ρ2=>post (.un::xs) ρ2
 | _=>False
theorem pal_nil:PAL X [] [] aNil:=fun _ pins s σ H Pr ρ post I E h=>Calls.spliced_nil ⟨[],H,[],ρ,I,.nil,rfl,rfl,E,fun k i e=>by simp at e,h⟩
theorem pal_val {bs:List (Option Nat)} {r:W (List L)} {t:W L} (ha:PL X e t) (hr:PAL X es bs r) (hs:starEach (e::es) X.env=(false,eval e X.env)::starEach es X.env:=by rfl):PAL X (e::es) (none::bs) (aVal t r):=by
 intro pos pins s σ H Pr ρ post I E h
 rw [hs]
 show wpAny _ _ (spliced ((false,eval e X.env)::backTo pos (starEach es X.env))) _ _ s
 refine Calls.spliced_cons (thn (ha pins s σ H Pr ρ _ I E h) fun u s1 ⟨x,H1,l,ρ1,I1,r1,E1,q1⟩=>?_)
 refine thn (hr pos pins s1 σ H1 _ ρ1 _ I1 E1.tail.wide q1) fun us s2 ⟨vs,H2,ls,ρ2,I2,r2,hl,hb,E2,hv,q2⟩=>?_
 have E3:REnv X.K Pr H2 (vs.map some++(some x::σ)) (ls++(l::ρ2)):=REnv.step (τ:=[some x]) (lam:=[l]) E1 rfl E2 (by simp [hl])
 have E4:REnv X.K Pr H2 (some x::(vs.map some++σ)) (l::(ls++ρ2)):=by
  have pm:(owns (ls++(l::ρ2))).Perm (owns (l::(ls++ρ2))):=owns_perm List.perm_middle
  have s1:=Paired.unapp (by simp [hl]) E3.sl
  obtain ⟨s1,s2⟩:=s1
  cases s2 with
  | cons q t=>exact ⟨E3.sub,pm.nodup_iff.mp E3.nd,fun a h=>E3.off a (pm.mem_iff.mpr h),.cons q (Paired.app s1 t)⟩
 refine ⟨x::vs,H2,l::ls,ρ2,I2,.cons r1 r2,by simp [hl],by simp [hb],E4,fun k i e=>?_,q2⟩
 cases k with
 | zero=>simp at e
 | succ k=>simpa using hv k i (by simpa using e)
theorem pal_var (i:Nat) {x:Str} {p:Pos} {bs:List (Option Nat)} {r:W (List L)} (hr:PAL X es bs r) (hN:X.N[i]?=some x:=by rfl) (hv:Vis X.env.scope x:=by first | exact Or.inl rfl | exact Or.inr (Or.inl rfl) | exact Or.inr (Or.inr rfl)) (hd:(x == ("__debug__" : Str))=false:=by decide)
  (hcd:(x == ("__classdict__" : Str))=false:=by decide) (hs:starEach (.Name x p::es) X.env=(false,eval (.Name x p) X.env)::starEach es X.env:=by rfl):PAL X (.Name x p::es) (some i::bs) (aVar i r):=by
 intro pos pins s σ H Pr ρ post I E h
 unfold aVar at h
 cases q:ρ[i]? with
 | none=>rw [q] at h; exact h.elim
 | some l =>
  rw [q] at h
  cases l with
  | un=>exact h.elim
  | d y=>exact h.elim
  | bx _ _=>exact h.elim
  | dic _ _=>exact h.elim
  | own a xs =>
   obtain ⟨sv,hsl,sl⟩:=E.slot q
   obtain ⟨rfl,_⟩:=sl
   rw [hs]
   show wpAny _ _ (spliced ((false,eval (.Name x p) X.env)::backTo pos (starEach es X.env))) _ _ s
   refine Calls.spliced_cons (thn (pe_var hN hv hd hcd pins s σ H (fun w H'=>w=.ref a∧H'=H) I ⟨.ref a,hsl,rfl,rfl⟩) fun u s1 ⟨w,H1,I1,r1,e1,e2⟩=>?_)
   subst e1 e2
   refine thn (hr pos pins s1 σ H1 Pr ρ _ I1 E h) fun us s2 ⟨vs,H2,ls,ρ2,I2,r2,hl,hb,E2,hv,q2⟩=>?_
   refine ⟨.ref a::vs,H2,.un::ls,ρ2,I2,.cons r1 r2,by simp [hl],by simp [hb],E2.cons_un,fun k j e=>?_,q2⟩
   cases k with
   | zero=>simp at e; subst e; exact ⟨rfl,.ref a,rfl,hsl⟩
   | succ k=>simpa using hv k j (by simpa using e)
def toDs:List L→(List D→Prop)→Prop
 | [],k=>k []
 | .d x::r,k=>toDs r fun xs=>k (x::xs)
 | _::_,_=>False
theorem toDs_is:∀ {ls:List L} {k:List D→Prop},toDs ls k→∃ xs,ls=xs.map .d∧k xs
 | [],_,h=>⟨[],rfl,h⟩
 | .d x::r,k,h=>by
  obtain ⟨xs,e,q⟩:=toDs_is (ls:=r) h
  exact ⟨x::xs,by rw [e]; rfl,q⟩
 | .un::_,_,h=>h.elim
 | .own _ _::_,_,h=>h.elim
theorem reps_of {K:PySem.W.Frag} {Pr H:Hp} {σ:St} {ρ:Ev}:∀ {vs:List V} {xs:List D},vs.length=xs.length→REnv K Pr H (vs.map some++σ) (xs.map .d++ρ)→Reps K H vs xs
 | [],[],_,_=>.nil
 | v::vs,x::xs,hl,E=>by
  obtain ⟨w,e,r⟩:=REnv.head_d (v:=some v) (x:=x) E
  cases e
  exact .cons r (reps_of (by simpa using hl) (REnv.tail (v:=some v) (l:=.d x) E))
 | [],_::_,hl,_=>by simp at hl
 | _::_,[],hl,_=>by simp at hl
def wTup (t:W (List L)):W L:=fun ρ post=>t ρ fun ls ρ1=>toDs ls fun xs=>xs.length≤sizeLine∧post (.d (.tup xs)) ρ1
def wLst (t:W (List L)):W L:=fun ρ post=>t ρ fun ls ρ1=>toDs ls fun xs=>xs.length≤sizeLine∧∀ a,post (.own a xs) ρ1
theorem pl_tup {x1} {bs:List (Option Nat)} {t:W (List L)} (h:PAL X es bs t):PL X (.Tuple es x1 pos) (wTup t):=by
 intro pins s σ H Pr ρ post I E hq
 refine wpAny_Tuple_spliced (thn (h pos pins s σ H Pr ρ _ I E hq) fun us s1 ⟨vs,H1,ls,ρ1,I1,r,hl,hb,E1,hv,q⟩=>?_)
 obtain ⟨xs,rfl,z,q⟩:=toDs_is q
 have hlen:vs.length=xs.length:=by simpa using hl
 refine ⟨by rw [← r.length,hlen]; exact z,?_⟩
 have hf:H1 s1.heap.objs.size=none:=I1.hok.fresh (Nat.le_refl _)
 refine ⟨.ref s1.heap.objs.size,upd H1 s1.heap.objs.size (.tup vs),_,ρ1,I1.laid (t':=s1.toks) (fun b u e=>Heap.get?_push_of_some _ e) (Nat.le_refl _) ?_,rfl,(E1.drop (by simp [hlen])).cons_tup hf (reps_of hlen E1),q⟩
 exact ⟨by rw [hlen]; exact z,us,r,⟨_,Heap.get?_push_size _ rfl,rfl,_,rfl⟩⟩
theorem pl_lst {bs:List (Option Nat)} {t:W (List L)} (h:PAL X es bs t):PL X (.List es pos) (wLst t):=by
 intro pins s σ H Pr ρ post I E hq
 refine wpAny_List_spliced (thn (h pos pins s σ H Pr ρ _ I E hq) fun us s1 ⟨vs,H1,ls,ρ1,I1,r,hl,hb,E1,hv,q⟩=>?_)
 obtain ⟨xs,rfl,z,q⟩:=toDs_is q
 have hlen:vs.length=xs.length:=by simpa using hl
 refine ⟨by rw [← r.length,hlen]; exact z,?_⟩
 have hf:H1 s1.heap.objs.size=none:=I1.hok.fresh (Nat.le_refl _)
 refine ⟨.ref s1.heap.objs.size,upd H1 s1.heap.objs.size (.lst vs),_,ρ1,I1.laid (t':=s1.toks) (fun b u e=>Heap.get?_push_of_some _ e) (Nat.le_refl _) ?_,rfl,(E1.drop (by simp [hlen])).cons_own hf (reps_of hlen E1),q _⟩
 exact ⟨by rw [hlen]; exact z,us,0,r,Heap.get?_push_size _ rfl⟩
abbrev FS:=List L→(L→List L→Prop)→Prop
def spF (K:PySem.W.Frag) (n:Nat) (fs:FS):Sp:=fun vs H Q _=>vs.length=n∧∃ Pr ls post,REnv K Pr H (vs.map some) ls∧fs ls post∧∀ v H' r ls',REnv K Pr H' (some v::vs.map some) (r::ls')→post r ls'→Q v H'
theorem REnv.swap {K:PySem.W.Frag} {Pr H:Hp} {σ τ:St} {ρ lam:Ev} (hl:τ.length=lam.length) (E:REnv K Pr H (τ++σ) (lam++ρ)):REnv K Pr H (σ++τ) (ρ++lam):=by
 have pm:(owns (lam++ρ)).Perm (owns (ρ++lam)):=owns_perm List.perm_append_comm
 obtain ⟨s1,s2⟩:=Paired.unapp hl E.sl
 exact ⟨E.sub,pm.nodup_iff.mp E.nd,fun a h=>E.off a (pm.mem_iff.mpr h),Paired.app s2 s1⟩
theorem callee {K:PySem.W.Frag} {Pr H H':Hp} {σ τ:St} {ρ ls ls':Ev} {v:Option V} {r:L} (hl:τ.length=ls.length) (E:REnv K Pr H (τ++σ) (ls++ρ)) (E':REnv K (butOwn H ls) H' (v::τ) (r::ls')):REnv K Pr H' (v::(τ++σ)) (r::(ls'++ρ)):=by
 have hρ:σ.length=ρ.length:=(E.drop hl).len
 have z:=REnv.step (τ:=σ) (σ:=τ) (lam:=ρ) (ρ:=ls) (w:=[v]) (μ:=[r]) (E.swap hl) hρ E' rfl
 have hl':τ.length=ls'.length:=by have:=E'.len; simpa using this
 obtain ⟨s1,s2⟩:=Paired.unapp (a:=[v]) (b:=[r]) rfl z.sl
 obtain ⟨s2,s3⟩:=Paired.unapp hρ s2
 have pm:(owns ([r]++(ρ++ls'))).Perm (owns (r::(ls'++ρ))):=owns_perm (List.Perm.cons r (List.perm_append_comm (l₁:=ρ) (l₂:=ls')))
 exact ⟨z.sub,pm.nodup_iff.mp z.nd,fun a h=>z.off a (pm.mem_iff.mpr h),Paired.app s1 (Paired.app s3 s2)⟩
def wCall (fs:FS) (t:W (List L)):W L:=fun ρ post=>t ρ fun ls ρ1=>fs ls fun r _=>post r ρ1
def wCallB (fs:FS) (k i:Nat) (t:W (List L)):W L:=fun ρ post=>t ρ fun ls ρ1=>match ρ1[i]? with
 | some (.own a xs)=>fs (ls.set k (.own a xs)) fun r ls'=>∃ ys,ls'[k]?=some (.own a ys)∧post r (ρ1.set i (.own a ys))
 | _=>False
section
variable {CX:CXT} {k n:Nat} {f:Addr} {fd:FuncData} {ps:List Str} {fs:FS} {E:XK} {x:Str} {p:Pos} {bs:List (Option Nat)} {t:W (List L)}
theorem REnv.drop1 {K:PySem.W.Frag} {Pr H:Hp} {σ τ:St} {ρ lam:Ev} {v:Option V} {r:L} (hl:τ.length=lam.length) (E:REnv K Pr H (v::(τ++σ)) (r::(lam++ρ))):REnv K Pr H (v::σ) (r::ρ):=by
 obtain ⟨s1,s2⟩:=Paired.unapp (a:=[v]) (b:=[r]) rfl E.sl
 obtain ⟨s2,s3⟩:=Paired.unapp hl s2
 have sb:(owns (r::ρ)).Sublist (owns (r::(lam++ρ))):=owns_sub (List.Sublist.cons_cons r (List.sublist_append_right _ _))
 exact ⟨E.sub,E.nd.sublist sb,fun a h=>E.off a (sb.subset h),Paired.app s1 s3⟩
theorem pl_call (F:FnOk X.prog X.w X.K X.mg X.base CX k f fd ps (spF X.K n fs)) (hr:Room k X.A) (hg:Gl X x) (hm:X.mg x=some (.ref f)) (hk:PySem.W.keepIn X.K (.ref f)=true) (hb:Binds X.K fd ps []) (hx:Passes CX X E)
  (ha:PAL X (e::es) bs t) (hn:bs.length=n) (hdb:(x == ("__debug__" : Str))=false:=by decide) (he:starEach (e::es) X.env=(false,eval e X.env)::starEach es X.env:=by rfl) (hpl:(backTo pos (starEach es X.env)).any (·.1)=false:=by rfl) :
  PL X (.Call (.Name x p) (e::es) [] pos) (wCall fs t):=by
 intro pins s σ H Pr ρ post I E0 h
 refine wpAny_Call_Name_kw (ld_glob I hg hm ?_ hdb)
 refine PySem.W.callWith_K (h₀:=X.base) I.ok.mod.kin hk (thn (ha pos pins s σ H Pr ρ _ I E0 h) fun us s1 ⟨vs,H1,ls,ρ1,I1,r,hl,hbl,E1,hv,q⟩=>⟨I1.kIn,?_⟩) he hpl
 have hl':(vs.map some).length=ls.length:=by simp [hl]
 refine thn (run_fn (Q:=fun v H'=>∃ r ρ',REnv X.K Pr H' (some v::σ) (r::ρ')∧post r ρ') F hr hb .nil hx I1 r ?_) fun u s2 ⟨v,H2,I2,rv,r,ρ',E2,p⟩=>⟨v,H2,r,ρ',I2,rv,E2,p⟩
 rw [List.append_nil]
 refine ⟨hbl.trans hn,butOwn H1 ls,ls,_,(E1.left hl').wide,q,fun v H' r ls' E2 p=>⟨r,ρ1,?_,p⟩⟩
 have z:=callee hl' E1 E2
 have hl2:(vs.map some).length=ls'.length:=by have:=E2.len; simpa using this
 exact z.drop1 hl2
theorem pl_callB (F:FnOk X.prog X.w X.K X.mg X.base CX k f fd ps (spF X.K n fs)) (hr:Room k X.A) (hg:Gl X x) (hm:X.mg x=some (.ref f)) (hk:PySem.W.keepIn X.K (.ref f)=true) (hb:Binds X.K fd ps []) (hx:Passes CX X E)
  (j i:Nat) (ha:PAL X (e::es) bs t) (hj:bs[j]?=some (some i)) (hn:bs.length=n) (hdb:(x == ("__debug__" : Str))=false:=by decide) (he:starEach (e::es) X.env=(false,eval e X.env)::starEach es X.env:=by rfl) (hpl:(backTo pos (starEach es X.env)).any (·.1)=false:=by rfl) :
  PL X (.Call (.Name x p) (e::es) [] pos) (wCallB fs j i t):=by
 intro pins s σ H Pr ρ post I E0 h
 refine wpAny_Call_Name_kw (ld_glob I hg hm ?_ hdb)
 refine PySem.W.callWith_K (h₀:=X.base) I.ok.mod.kin hk (thn (ha pos pins s σ H Pr ρ _ I E0 h) fun us s1 ⟨vs,H1,ls,ρ1,I1,r,hl,hbl,E1,hv,q⟩=>⟨I1.kIn,?_⟩) he hpl
 have hl':(vs.map some).length=ls.length:=by simp [hl]
 refine thn (run_fn (Q:=fun v H'=>∃ r ρ',REnv X.K Pr H' (some v::σ) (r::ρ')∧post r ρ') F hr hb .nil hx I1 r ?_) fun u s2 ⟨v,H2,I2,rv,r,ρ',E2,p⟩=>⟨v,H2,r,ρ',I2,rv,E2,p⟩
 rw [List.append_nil]
 dsimp only at q
 cases qi:ρ1[i]? with
 | none=>rw [qi] at q; exact q.elim
 | some l =>
  rw [qi] at q
  cases l with
  | un=>exact q.elim
  | d y=>exact q.elim
  | bx _ _=>exact q.elim
  | dic _ _=>exact q.elim
  | own a xs =>
   obtain ⟨hun,w,hw,hσ⟩:=hv j i hj
   obtain ⟨sv,hs2,rfl,_⟩:=(E1.drop hl').slot qi
   rw [hσ] at hs2
   cases hs2
   have hjl:j < ls.length:=(List.getElem?_eq_some_iff.mp hun).1
   have hjv:j < vs.length:=by omega
   have hil:i < ρ1.length:=(List.getElem?_eq_some_iff.mp qi).1
   have E2:=E1.out (i:=ls.length+i) (a:=a) (xs:=xs) (by rw [List.getElem?_append_right (by omega)]; simpa using qi)
   rw [List.set_append_right _ _ (by omega),Nat.add_sub_cancel_left] at E2
   have E3:=E2.back (i:=j) (by rw [List.getElem?_append_left hjl]; exact hun) (by rw [List.getElem?_append_left (by simp; omega)]; simp [hw])
   rw [List.set_append_left _ _ hjl] at E3
   have hl3:(vs.map some).length=(ls.set j (.own a xs)).length:=by simp [hl]
   refine ⟨hbl.trans hn,butOwn H1 (ls.set j (.own a xs)),_,_,(E3.left hl3).wide,q,fun v H' r ls' E4 p=>?_⟩
   obtain ⟨ys,hys,p⟩:=p
   refine ⟨r,ρ1.set i (.own a ys),?_,p⟩
   have z:=callee hl3 E3 E4
   have hl4:(vs.map some).length=ls'.length:=by have:=E4.len; simpa using this
   have hjl':j < ls'.length:=by simp at hl4; omega
   have z1:=z.out (i:=1+j) (a:=a) (xs:=ys) (by rw [Nat.add_comm]; simp only [List.getElem?_cons_succ]; rw [List.getElem?_append_left hjl']; exact hys)
   rw [Nat.add_comm 1 j,List.set_cons_succ,List.set_append_left _ _ hjl'] at z1
   have z2:=z1.back (i:=(1+ls'.length)+i) (by
    rw [Nat.add_comm 1,Nat.add_right_comm,List.getElem?_cons_succ,List.getElem?_append_right (by simp)]
    simp [hil]) (by
    rw [Nat.add_comm 1,Nat.add_right_comm,List.getElem?_cons_succ,List.getElem?_append_right (by simp at hl4 ⊢; omega)]
    simp at hl4 ⊢
    rw [← hl4,Nat.add_sub_cancel_left]
    exact hσ)
   rw [Nat.add_comm 1,Nat.add_right_comm,List.set_cons_succ,List.set_append_right _ _ (by simp)] at z2
   simp only [List.length_set,Nat.add_sub_cancel_left,List.set_set] at z2
   exact z2.drop1 (by simp at hl4 ⊢; exact hl4)
end
end
end L2
namespace L2
open PySem PySem.Spec PyProof.Rows
def Back (ρ:Ev):List L→List L→Prop:=Paired fun l l'=>match l with
 | .own a _=>(∃ ys,l'=.own a ys∧L.own a ys∈ρ)∨l'=.un
 | .bx _ _=>l'=.un
 | .dic _ _=>l'=.un
 | l=>l'=l
def okEnd (ls:List L) (post:L→List L→Prop):Fl→Ev→Prop:=fun f ρ=>match f with
 | .rt r=>∃ ls',Back ρ ls ls'∧post r ls'
 | .nx=>∃ ls',Back ρ ls ls'∧post (.d .non) ls'
 | _=>False
theorem Back.owns {ρ:Ev}:∀ {ls ls':List L},Back ρ ls ls'→(owns ls').Sublist (owns ls)
 | _,_,.nil=>.refl _
 | l::ls,l'::ls',.cons h t=>by
  have ih:=Back.owns t
  rw [owns_cons,owns_cons]
  cases l with
  | own a xs =>
   rcases h with ⟨ys,rfl,_⟩ | rfl
   ·
    exact (List.Sublist.refl _).append ih
   ·
    exact ih.trans (List.sublist_append_right _ _)
  | un=>have e:l'=.un:=h; subst e; exact (List.Sublist.refl _).append ih
  | d x=>have e:l'=.d x:=h; subst e; exact (List.Sublist.refl _).append ih
  | bx k ms=>have e:l'=.un:=h; subst e; exact ih.trans (List.sublist_append_right _ _)
  | dic k ms=>have e:l'=.un:=h; subst e; exact ih.trans (List.sublist_append_right _ _)
theorem Back.sub {ρ:Ev}:∀ {ls ls':List L},Back ρ ls ls'→∀ a∈L2.owns ls',a∈L2.owns ρ
 | _,_,.nil=>fun a ha=>by simp [L2.owns] at ha
 | l::ls,l'::ls',.cons h t=>fun a ha=>by
  have ih:=Back.sub t
  rw [owns_cons] at ha
  rcases List.mem_append.mp ha with z | z
  ·
   cases l with
   | own b xs =>
    rcases h with ⟨ys,rfl,hm⟩ | rfl
    ·
     have e:a=b:=by simpa [ownsL] using z
     subst e
     exact own_mem hm
    ·
     simp [ownsL] at z
   | un=>have e:l'=.un:=h; subst e; simp [ownsL] at z
   | d x=>have e:l'=.d x:=h; subst e; simp [ownsL] at z
   | bx k ms=>have e:l'=.un:=h; subst e; simp [ownsL] at z
   | dic k ms=>have e:l'=.un:=h; subst e; simp [ownsL] at z
  ·
   exact ih a z
theorem back_env {K:PySem.W.Frag} {Pr H H':Hp} {σ τ:St} {ls ls' ρ:Ev} {v:Option V} {r:L} (E:REnv K Pr H σ ls) (E':REnv K (butOwn H ls) H' (v::τ) (r::ρ)) (B:Back ρ ls ls'):REnv K Pr H' (v::σ) (r::ls'):=by
 have E1:=E.narrow E'
 have p:Pres H H':=pres_of E E'.sub
 have sub:=B.sub
 have nd1:(owns ls').Nodup:=E.nd.sublist B.owns
 refine ⟨E1.sub,?_,fun a ha=>?_,?_⟩
 ·
  have nd:=E'.nd
  rw [owns_cons] at nd ⊢
  obtain ⟨n1,n2,n3⟩:=List.nodup_append.mp nd
  exact List.nodup_append.mpr ⟨n1,nd1,fun a ha b hb=>n3 a ha b (sub b hb)⟩
 ·
  rw [owns_cons] at ha
  refine E1.off a ?_
  rw [owns_cons]
  rcases List.mem_append.mp ha with z | z
  ·
   exact List.mem_append_left _ z
  ·
   exact List.mem_append_right _ (sub a z)
 ·
  have s1:=E'.sl
  cases s1 with
  | cons q t =>
   refine .cons q ?_
   have sl:=E.sl
   clear E E' E1 nd1 sub
   induction B generalizing σ with
   | nil=>cases sl; exact .nil
   | cons h u ih =>
    rename_i l l' _ _
    cases sl with
    | cons s0 s2 =>
     refine .cons ?_ (ih s2)
     cases l with
     | own a xs =>
      rcases h with ⟨ys,rfl,hm⟩ | rfl
      ·
       obtain ⟨e,_⟩:=s0
       obtain ⟨_,_,_,z⟩:=Paired.mem2 t hm
       exact ⟨e,z⟩
      ·
       unfold Slot1; exact True.intro
     | un=>have e:l'=.un:=h; subst e; unfold Slot1; exact True.intro
     | bx k ms=>have e:l'=.un:=h; subst e; unfold Slot1; exact True.intro
     | dic k ms=>have e:l'=.un:=h; subst e; unfold Slot1; exact True.intro
     | d x =>
      have e:l'=.d x:=h
      subst e
      obtain ⟨w,e,r⟩:=s0
      exact ⟨w,e,r.pres p⟩
section
variable {P:Program} {w:World} {K:PySem.W.Frag} {mg:Str→Option Value} {base:Heap}
theorem REnv.uns {K:PySem.W.Frag} {Pr H:Hp} {σ:St} {ρ:Ev} (E:REnv K Pr H σ ρ):∀ n,REnv K Pr H (σ++List.replicate n none) (ρ++List.replicate n .un):=fun n=>by
 have e:owns (ρ++List.replicate n .un)=owns ρ:=by
  rw [owns_append]
  have:owns (List.replicate n L.un)=[]:=by
   induction n with
   | zero=>rfl
   | succ n ih=>rw [List.replicate_succ,owns_cons_un]; exact ih
  rw [this,List.append_nil]
 refine ⟨E.sub,by rw [e]; exact E.nd,fun a h=>E.off a (by rw [e] at h; exact h),Paired.app E.sl ?_⟩
 induction n with
 | zero=>exact .nil
 | succ n ih =>
  rw [List.replicate_succ,List.replicate_succ]
  refine .cons True.intro (ih ?_)
  have:owns (List.replicate n L.un)=[]:=by
   clear ih e
   induction n with
   | zero=>rfl
   | succ n ih=>rw [List.replicate_succ,owns_cons_un]; exact ih
  rw [owns_append,this,List.append_nil]
theorem fn_ok {x qual:Str} {st:Stmt} {f:Addr} {fd:FuncData} {N ps:List Str} {k:Nat} {fs:FS} (F:Fun K x qual st f fd) (S:FnScope N ps (defScope st)) (t:W Fl)
  (hbody:∀ (cdv:Value) (A:Around) (outer:List Env) (s:Shared) (H:Hp) (E:XK),Room k (A.deeper (envOfC qual (defScope st) s.heap.objs.size f cdv))→PMs (cxOf CX0 P w K mg base N qual (defScope st) f cdv A outer s H E).nox (defBody st) t)
  (h:∀ ls post,ls.length=ps.length→fs ls post→t (ls++List.replicate (N.length - ps.length) .un) (okEnd ls post)):FnOk P w K mg base CX0 (k+1) f fd ps (spF K ps.length fs):=by
 refine F.ok S (fun vs H Q E q=>q.1) (fun cdv A outer s H vs Q E hr q=>?_)
 obtain ⟨hl,Pr,ls,post,E0,hf,q⟩:=q
 refine ⟨_,(hbody cdv A outer s H E hr).pss,butOwn H ls,ls++List.replicate (N.length - ps.length) .un,okEnd ls post,?_,h ls post (by rw [← hl]; have:=E0.len; simpa using this.symm) hf,fun σ' H' ρ' E' p=>?_,fun _ _ _ _ p=>p.elim,fun _ _ _ _ p=>p.elim,fun v τ H' r ρ' E' p=>?_⟩
 ·
  unfold start
  rw [hl]
  exact E0.wide.uns _
 ·
  obtain ⟨ls',B,p⟩:=p
  exact q .non H' (.d .non) ls' (back_env E0 (E'.cons_d .non) B) p
 ·
  obtain ⟨ls',B,p⟩:=p
  exact q v H' r ls' (back_env E0 E' B) p
end
theorem back0 {ρ:Ev}:Back ρ [] []:=.nil
theorem back_d {ρ:Ev} {x:D} {a b:List L} (t:Back ρ a b):Back ρ (.d x::a) (.d x::b):=.cons rfl t
theorem back_own {ρ:Ev} {p:Addr} {xs ys:List D} {a b:List L} (h:L.own p ys∈ρ) (t:Back ρ a b):Back ρ (.own p xs::a) (.own p ys::b):=.cons (.inl ⟨ys,rfl,h⟩) t
section
variable {X:Cx} {e a b c tg:Expr} {es rest:List Expr} {pos:Pos} {ta tb tc:W L} {tA tB:W Bool} {st:Stmt} {sts:List Stmt} {t u:W Fl}
def wWhile (c:W Bool) (b:W Fl):W Fl:=fun ρ post=>∃ J:Nat→Ev→Prop,(∃ n,J n ρ)∧∀ n ρ,J n ρ→c ρ fun t ρ1=>if t=true then b ρ1 fun f ρ2=>(match f with
 | .nx=>∃ m,m < n∧J m ρ2
 | .ct=>∃ m,m < n∧J m ρ2
 | .bk=>post .nx ρ2
 | .rt r=>post (.rt r) ρ2) else post .nx ρ1
theorem pm_while {body:List Stmt} (hp:PassesOwn (model X.prog X.w) X.A X.env X.xe) (hc:PB X c tA) (hb:PMs X body t):PM X (.While c body [] pos) (wWhile tA t):=by
 refine PM.of (ps_while hp hc.pt hb.pss) fun σ H Pr ρ post hlen E h=>?_
 obtain ⟨J,⟨n0,j0⟩,turn⟩:=h
 refine ⟨fun n σ H=>∃ ρ,REnv X.K Pr H σ ρ∧J n ρ,⟨n0,ρ,E,j0⟩,fun n σ1 H1 ⟨ρ1,E1,j1⟩=>⟨Pr,ρ1,_,E1,turn n ρ1 j1,fun b H2 ρ2 E2 q=>?_⟩⟩
 cases b with
 | false=>exact ⟨ρ2,E2,q⟩
 | true =>
  refine ⟨fun σ' H'=>∃ ρ' m,REnv X.K Pr H' σ' ρ'∧m < n∧J m ρ',fun σ' H' ⟨ρ',m,E',hm,j⟩=>⟨m,hm,ρ',E',j⟩,Pr,ρ2,_,E2,q,fun σ' H' ρ' E' ⟨m,hm,j⟩=>⟨ρ',m,E',hm,j⟩,fun σ' H' ρ' E' p=>⟨ρ',E',p⟩,fun σ' H' ρ' E' ⟨m,hm,j⟩=>⟨ρ',m,E',hm,j⟩,fun v τ H' r ρ' E' p=>⟨τ,r,ρ',E',p⟩⟩
abbrev Tg:=D→Ev→(Ev→Prop)→Prop
def PT1 (X:Cx) (tg:Expr) (g:Tg):Prop:=∃ gg:TG,PG X tg gg∧∀ v σ H Pr ρ x k,σ.length=X.N.length→REnv X.K Pr H σ ρ→Rep X.K H v x→g x ρ k→gg v σ H fun σ' H'=>H'=H∧σ'.length=X.N.length∧∃ ρ',REnv X.K Pr H σ' ρ'∧k ρ'
def tgName (i:Nat):Tg:=fun x ρ k=>k (ρ.set i (.d x))
theorem tg_name {i:Nat} {x:Str} (hN:X.N.Nodup) (hi:X.N[i]?=some x) (hx:Loc X.env.scope x) (hf:X.fn x=true∨X.env.scope.names.lookup x=some .local:=by first | exact .inl rfl | exact .inr rfl | assumption):PT1 X (.Name x pos) (tgName i) :=
 ⟨_,pg_name hN hi hx hf,fun v σ H Pr ρ x k hl E r h=>⟨rfl,by simpa using hl,_,(E.cons_d r).store (by rw [hl]; exact (List.getElem?_eq_some_iff.mp hi).1),h⟩⟩
def tgNames:List Nat→List D→Ev→(Ev→Prop)→Prop
 | [],[],ρ,k=>k ρ
 | i::is,x::xs,ρ,k=>tgNames is xs (ρ.set i (.d x)) k
 | _,_,_,_=>False
def PTs (X:Cx) (es:List Expr) (is:List Nat):Prop:=∃ gg:TGs,PGs X es gg∧es.length=is.length∧∀ vs σ H Pr ρ xs k,σ.length=X.N.length→REnv X.K Pr H σ ρ→Reps X.K H vs xs→tgNames is xs ρ k→gg vs σ H fun σ' H'=>H'=H∧σ'.length=X.N.length∧∃ ρ',REnv X.K Pr H σ' ρ'∧k ρ'
theorem tgs_nil:PTs X [] []:=⟨_,pgs_nil,rfl,fun vs σ H Pr ρ xs k hl E r h=>by
 cases r with
 | nil=>exact ⟨rfl,rfl,hl,ρ,E,h⟩
 | cons _ _=>exact h.elim⟩
theorem tgs_cons {i:Nat} {is:List Nat} {x:Str} (hN:X.N.Nodup) (hi:X.N[i]?=some x) (hx:Loc X.env.scope x) (hr:PTs X es is) (hf:X.fn x=true∨X.env.scope.names.lookup x=some .local:=by first | exact .inl rfl | exact .inr rfl | assumption)
  (hs:(assignEach (.Name x pos::es) X.env).map (·.2)=assign (.Name x pos) X.env::(assignEach es X.env).map (·.2):=by rfl):PTs X (.Name x pos::es) (i::is):=by
 obtain ⟨gg,hg,hlen,q⟩:=hr
 refine ⟨_,pgs_cons (pg_name hN hi hx hf) hg hs,by simp [hlen],fun vs σ H Pr ρ xs k hl E r h=>?_⟩
 cases r with
 | nil=>exact h.elim
 | cons r0 t =>
  refine ⟨_,_,rfl,?_⟩
  exact q _ _ H Pr _ _ k (by simpa using hl) ((E.cons_d r0).store (by rw [hl]; exact (List.getElem?_eq_some_iff.mp hi).1)) t h
def tgTup (is:List Nat):Tg:=fun x ρ k=>match x with
 | .tup xs=>tgNames is xs ρ k
 | _=>False
theorem tgNames_len:∀ {is:List Nat} {xs:List D} {ρ:Ev} {k:Ev→Prop},tgNames is xs ρ k→xs.length=is.length
 | [],[],_,_,_=>rfl
 | _::is,_::xs,_,_,h=>by simp [tgNames_len (is:=is) (xs:=xs) h]
 | [],_::_,_,_,h=>h.elim
 | _::_,[],_,_,h=>h.elim
theorem tg_tup {is:List Nat} {k:Nat} (hc:X.calm=true) (h:PTs X es is) (hn:(assignEach es X.env).length=is.length:=by rfl) (hst:(assignEach es X.env).findIdx? (·.1)=none:=by rfl):PT1 X (.Tuple es k pos) (tgTup is):=by
 obtain ⟨gg,hg,hlen,q⟩:=h
 refine ⟨_,pg_tup hc hg hn hst,fun v σ H Pr ρ x k hl E r h=>?_⟩
 cases r with
 | tup hs rs=>exact ⟨_,_,rfl,hs,by rw [rs.length]; exact tgNames_len h,q _ σ H Pr ρ _ k hl E rs h⟩
 | _=>exact h.elim
def wForL (g:Tg) (b:W Fl):List D→W Fl
 | []=>fun ρ post=>post .nx ρ
 | x::xs=>fun ρ post=>g x ρ fun ρ1=>b ρ1 fun f ρ2=>match f with
  | .nx=>wForL g b xs ρ2 post
  | .ct=>wForL g b xs ρ2 post
  | .bk=>post .nx ρ2
  | .rt r=>post (.rt r) ρ2
def itemsOf:D→(List D→Prop)→Prop
 | .lst xs,k=>k xs
 | .tup xs,k=>k xs
 | _,_=>False
def Grown (H H':Hp):Prop:=H'=H∨∃ p o,H p=none∧H'=upd H p o
theorem REnv.grown {K:PySem.W.Frag} {Pr H H':Hp} {σ:St} {ρ:Ev} (E:REnv K Pr H σ ρ) (g:Grown H H'):REnv K Pr H' σ ρ:=by
 rcases g with rfl | ⟨p,o,h,rfl⟩
 ·
  exact E
 ·
  exact E.new h
def Gives (K:PySem.W.Frag) (H:Hp) (J:It) (xs:List D):Prop:=∀ H',Pres H H' →
 (∀ i x,xs[i]?=some x→J.go i H'∧∀ v H2,J.yld i H' v H2→Grown H' H2∧Rep K H2 v x)∧J.stop xs.length H'
def EI (X:Cx) (pins:List (Addr×Obj)) (σ:St) (tg:Expr) (Pr:Hp) (post:List D→Ev→Prop) (itv:Value) (s2:Shared):Prop :=
 ∃ (it:Addr) (fp:List Addr) (tn:Nat→Heap→Prop) (J:It) (H':Hp) (xs:List D) (ρ':Ev),itv=.ref it∧Inv X pins σ H' s2∧Turn X.prog X.w X.K tg J fp it tn∧tn 0 s2.heap∧(∀ b∈fp,FpOk X pins H' b)∧REnv X.K Pr H' σ ρ'∧Gives X.K H' J xs∧post xs ρ'
def PIL (X:Cx) (tg iter:Expr) (w:W (List D)):Prop :=
 ∀ (pins:List (Addr×Obj)) (s:Shared) (σ:St) (H Pr:Hp) (ρ:Ev) (post:List D→Ev→Prop),Inv X pins σ H s→REnv X.K Pr H σ ρ→w ρ post →
  wpAny (model X.prog X.w) X.A (eval iter X.env) (fun v s1=>wpAny (model X.prog X.w) X.A (pyIter v) (EI X pins σ tg Pr post) X.xe s1) X.xe s
def wSrc (t:W L):W (List D):=fun ρ post=>t ρ fun r ρ1=>toD r fun x=>itemsOf x fun xs=>post xs ρ1
theorem gives_list {K:PySem.W.Frag} {H:Hp} {a:Addr} {vs:List V} {xs:List D} (h:SqZ K H a vs) (r:Reps K H vs xs):Gives K H (Itl K a) xs:=fun H' p=>by
 have h':=(h.pres p).l
 refine ⟨fun i x e=>?_,⟨vs,h',by rw [r.length]; exact Nat.le_refl _⟩⟩
 obtain ⟨v,ev,rv⟩:=r.get e
 refine ⟨⟨vs,v,h',ev⟩,fun w H2 ⟨e1,e2⟩=>?_⟩
 have e3:=e2 vs h'
 rw [ev] at e3
 cases e3
 subst e1
 exact ⟨.inl rfl,rv.pres p⟩
theorem gives_tup {K:PySem.W.Frag} {H:Hp} {a:Addr} {vs:List V} {xs:List D} (h:SqT K H a vs) (r:Reps K H vs xs):Gives K H (Itt K a) xs:=fun H' p=>by
 have h':=h.pres p
 refine ⟨fun i x e=>?_,⟨vs,h',by rw [r.length]; exact Nat.le_refl _⟩⟩
 obtain ⟨v,ev,rv⟩:=r.get e
 refine ⟨⟨vs,v,h',ev⟩,fun w H2 ⟨e1,e2⟩=>?_⟩
 have e3:=e2 vs h'
 rw [ev] at e3
 cases e3
 subst e1
 exact ⟨.inl rfl,rv.pres p⟩
theorem pil_seq {t:W L} (h:PL X e t):PIL X tg e (wSrc t):=by
 intro pins s σ H Pr ρ post I E ht
 refine thn (h pins s σ H Pr ρ _ I E ht) fun u s1 q=>?_
 obtain ⟨v,H1,x,ρ1,I1,r1,E1,q2⟩:=EL.frz (post:=fun x ρ1=>itemsOf x fun xs=>post xs ρ1) q
 obtain ⟨_,e1,p⟩:=E1.head_d
 cases e1
 cases p with
 | lst hz rs =>
  cases r1
  obtain ⟨its,rv,pl,hz'⟩:=I1.list hz.l
  refine wpAny_pyIter_list pl.isList ?_
  refine ⟨s1.heap.objs.size,[s1.heap.objs.size],_,_,H1,_,ρ1,rfl,I1.kept (t':=s1.toks) fun b o e=>Heap.get?_push_of_some _ e,turn_list _ _,⟨_,Heap.get?_push_size _ rfl,rfl,rfl⟩,fun b hb=>?_,E1.tail,gives_list hz rs,q2⟩
  have e:b=s1.heap.objs.size:=by simpa using hb
  subst e
  exact I1.fpOk (Nat.le_refl _) (I1.hok.fresh (Nat.le_refl _))
 | tup hz rs =>
  cases r1
  obtain ⟨its,rv,pl,hz'⟩:=I1.tuple hz
  refine wpAny_pyIter_tuple (show s1.heap.IsTuple _ its.toArray from pl) ?_
  refine ⟨s1.heap.objs.size,[s1.heap.objs.size],_,_,H1,_,ρ1,rfl,I1.kept (t':=s1.toks) fun b o e=>Heap.get?_push_of_some _ e,turn_tuple _ _,⟨_,Heap.get?_push_size _ rfl,rfl,rfl⟩,fun b hb=>?_,E1.tail,gives_tup hz rs,q2⟩
  have e:b=s1.heap.objs.size:=by simpa using hb
  subst e
  exact I1.fpOk (Nat.le_refl _) (I1.hok.fresh (Nat.le_refl _))
 | _=>exact q2.elim
def rngD (lo:Int) (n:Nat):List D:=(List.range n).map fun (i:Nat)=>.int (lo+(i:Int))
theorem gives_rng {K:PySem.W.Frag} {H:Hp} (lo:Int) (n:Nat):Gives K H (Itr lo n) (rngD lo n):=fun H' p=>by
 refine ⟨fun i x e=>?_,?_⟩
 ·
  have hi:i < n:=by
   have:=(List.getElem?_eq_some_iff.mp e).1
   simpa [rngD] using this
  refine ⟨hi,fun v H2 ⟨e1,e2⟩=>?_⟩
  subst e1 e2
  have:x=.int (lo+(i:Int)):=by
   unfold rngD at e
   rw [List.getElem?_map,List.getElem?_range hi] at e
   simpa using e.symm
  subst this
  exact ⟨.inl rfl,.int _⟩
 ·
  show n≤(rngD lo n).length
  simp [rngD]
def toInt:L→(Int→Prop)→Prop
 | .d (.int i),k=>k i
 | _,_=>False
theorem toInt_is {r:L} {k:Int→Prop} (h:toInt r k):∃ i,r=.d (.int i)∧k i:=by
 cases r with
 | d x=>cases x with
  | int i=>exact ⟨i,rfl,h⟩
  | _=>exact h.elim
 | _=>exact h.elim
def smallI (j:Int):Prop:=-(2 ^ 62)≤j∧j < 2 ^ 62
def wRng1 (t:W L):W (List D):=fun ρ post=>t ρ fun r ρ1=>toInt r fun j=>smallI j∧post (rngD 0 j.toNat) ρ1
theorem pil_rng1 {t:W L} {p pos:Pos} (hg:Gl X "range") (hm:X.mg "range"=none) (ha:PL X a t) (hs:starEach [a] X.env=[(false,eval a X.env)]:=by rfl):PIL X tg (.Call (.Name "range" p) [a] [] pos) (wRng1 t):=by
 intro pins s σ H Pr ρ post I E h
 refine thn (pi_range1 (tg:=tg) hg hm (pa_cons ha.pe pa_nil hs) hs pins s σ H (fun J H1=>∃ ρ1 n,J=Itr 0 n∧REnv X.K Pr H1 σ ρ1∧post (rngD 0 n) ρ1) I ?_) fun v s1 q=>thn q fun itv s2 ⟨it,fp,tn,J,H',e,I',T,t0,hf,ρ1,n,eJ,E1,q⟩=>?_
 ·
  refine ⟨Pr,ρ,_,E,h,fun v H' r ρ' E' p=>?_⟩
  obtain ⟨j,rfl,hj,p⟩:=toInt_is p
  obtain ⟨_,e1,p1⟩:=E'.head_d
  cases e1
  cases p1
  exact ⟨j,rfl,hj.1,hj.2,ρ',_,rfl,E'.tail,p⟩
 ·
  subst eJ
  exact ⟨it,fp,tn,_,H',_,ρ1,e,I',T,t0,hf,E1,gives_rng 0 n,q⟩
def wFor (s:W (List D)) (g:Tg) (b:W Fl):W Fl:=fun ρ post=>s ρ fun xs ρ1=>wForL g b xs ρ1 post
theorem pm_for {iter:Expr} {body:List Stmt} {w:W (List D)} {g:Tg} (hp:PassesOwn (model X.prog X.w) X.A X.env X.xe) (hc:X.calm=true) (hi:PIL X tg iter w) (hg:PT1 X tg g) (hb:PMs X body t)
  (hs:∀ x,foldedSetIterable iter X.env x=pure x:=by intro _; rfl):PM X (.For tg iter body [] pos) (wFor w g t):=by
 intro pins s σ H Pr ρ post I E h
 obtain ⟨gg,hg,hgg⟩:=hg
 refine wpAny_For (thn (hi pins s σ H Pr ρ _ I E h) fun v s1 h1=>thn h1 fun itv s2 h2=>?_) hs
 obtain ⟨it,fp,tn,J,H2,xs,ρ2,e,I2,T,st2,f2,E2,G,w0⟩:=h2
 subst e
 have stat:∀ {H':Hp},(∀ b∈fp,H' b=none)→∀ b∈fp,FpOk X pins H' b:=fun hn b hb=>⟨hn b hb,(f2 b hb).2⟩
 refine codeAny_forLoop_any (fun n s'=>∃ i σ' H' ρ',n+i=xs.length∧Inv X pins σ' H' s'∧tn i s'.heap∧(∀ b∈fp,H' b=none)∧REnv X.K (butOwn H2 ρ2) H' σ' ρ'∧wForL g t (xs.drop i) ρ' post) ?_ xs.length ⟨0,σ,H2,ρ2,by omega,I2,st2,fun b hb=>(f2 b hb).1,E2.wide,by simpa using w0⟩
 rintro n s3 ⟨i,σ3,H3,ρ3,hn,I3,st3,fr3,E3,w3⟩
 obtain ⟨go,stop⟩:=G H3 (pres_of E2 E3.sub)
 by_cases hlt:i < xs.length
 ·
  obtain ⟨hgo,hy⟩:=go i xs[i] (List.getElem?_eq_getElem hlt)
  rw [List.drop_eq_getElem_cons hlt] at w3
  refine wpAny_passesOwn hp (thn (T.item X rfl rfl rfl hc i pins s3 σ3 H3 X.xe I3 (stat fr3) st3 hgo) fun r s4 ⟨u,hr,h4⟩=>?_)
  subst hr
  refine wpAny_passesOwn hp (thn h4 fun _ s5 ⟨x,H5,I5,r5,y5,st5,fr5⟩=>?_)
  obtain ⟨gr,rx⟩:=hy x H5 y5
  have I5':=I5.pinned (stat fr5) (T.obj _ _ st5)
  have E5:=E3.grown gr
  refine wpAny_passesOwn hp (thn (hg _ s5 σ3 H5 x u _ I5' r5 (hgg x σ3 H5 _ ρ3 xs[i] _ I5.len E5 rx w3)) fun _ s6 ⟨σ6,H6,I6,e6,hl6,ρ6,E6,q6⟩=>?_)
  subst e6
  refine wpAny_passesOwn hp (thn (hb _ s6 σ6 _ _ ρ6 _ I6 E6 q6) fun f s7 q7=>?_)
  have again:∀ {σ7:St} {H7:Hp} {ρ7:Ev},Inv X (pins++pinsAt fp s5.heap) σ7 H7 s7→REnv X.K (butOwn H2 ρ2) H7 σ7 ρ7→wForL g t (xs.drop (i+1)) ρ7 post →
    ∃ m,m < n∧∃ i σ' H' ρ',m+i=xs.length∧Inv X pins σ' H' s7∧tn i s7.heap∧(∀ b∈fp,H' b=none)∧REnv X.K (butOwn H2 ρ2) H' σ' ρ'∧wForL g t (xs.drop i) ρ' post:=fun {σ7 H7 ρ7} I7 E7 n7=>by
   refine ⟨n - 1,by omega,i+1,σ7,H7,ρ7,by omega,I7.unpinned,T.keep _ _ _ st5 fun b hb o e=>(I7.pin (b,o) (List.mem_append_right _ (List.mem_append_right _ (mem_pinsAt hb e)))).1,fun b hb=>?_,E7,n7⟩
   obtain ⟨o,e,d⟩:=T.obj _ _ st5 b hb
   exact (I7.pin (b,o) (List.mem_append_right _ (List.mem_append_right _ (mem_pinsAt hb e)))).2.1
  cases f with
  | next=>obtain ⟨σ7,H7,ρ7,I7,E7,n7⟩:=q7; exact again I7 E7 n7
  | cont=>obtain ⟨σ7,H7,ρ7,I7,E7,n7⟩:=q7; exact again I7 E7 n7
  | brk=>obtain ⟨σ7,H7,ρ7,I7,E7,q7⟩:=q7; exact ⟨σ7,H7,ρ7,I7.unpinned,E2.narrow E7,q7⟩
  | ret v=>obtain ⟨x7,σ7,H7,r,ρ7,τ,I7,r7,E7,q7⟩:=q7; exact ⟨x7,σ7,H7,r,ρ7,τ,I7.unpinned,r7,E2.narrow E7,q7⟩
 ·
  have e:i=xs.length:=by omega
  subst e
  refine wpAny_passesOwn hp (thn (T.done X rfl rfl rfl hc xs.length pins s3 σ3 H3 X.xe I3 (stat fr3) st3 stop) fun r s4 ⟨hr,I4⟩=>?_)
  subst hr
  rw [List.drop_length] at w3
  exact wpAny_execs_nil ⟨σ3,H3,ρ3,I4,E2.narrow E3,w3⟩
end
end L2
namespace L2
open PySem PySem.Spec PyProof.Rows
section
variable {X:Cx} {e a b c:Expr} {es rest:List Expr} {pos:Pos} {ta tb tc:W L}
def bitsOk (i:Int):Prop:=i.natAbs < 2 ^ 1000000
def opAdd:Op2:=fun x y k=>match x,y with
 | .int i,.int j=>k (.d (.int (i+j)))
 | .str i,.str j=>i.length+j.length≤sizeLine∧k (.d (.str (i++j)))
 | .lst xs,.lst ys=>xs.length+ys.length≤sizeLine∧∀ a,k (.own a (xs++ys))
 | _,_=>False
def opSub:Op2:=fun x y k=>match x,y with
 | .int i,.int j=>k (.d (.int (i - j)))
 | _,_=>False
def opDiv:Op2:=fun x y k=>match x,y with
 | .int i,.int j=>j≠0∧j.natAbs < 2 ^ 9000∧k (.d (.int (i.fdiv j)))
 | _,_=>False
def opMod:Op2:=fun x y k=>match x,y with
 | .int i,.int j=>j≠0∧k (.d (.int (i.fmod j)))
 | _,_=>False
def opPow:Op2:=fun x y k=>match x,y with
 | .int i,.int j=>0≤j∧j≤1000000∧i.natAbs < 2 ^ 64∧k (.d (.int (i ^ j.toNat)))
 | _,_=>False
def opLt:Op2:=fun x y k=>match x,y with
 | .int i,.int j=>k (.d (.bl (decide (i < j))))
 | _,_=>False
def opLe:Op2:=fun x y k=>match x,y with
 | .int i,.int j=>k (.d (.bl (decide (i≤j))))
 | _,_=>False
def opGt:Op2:=fun x y k=>match x,y with
 | .int i,.int j=>k (.d (.bl (decide (j < i))))
 | _,_=>False
def opGe:Op2:=fun x y k=>match x,y with
 | .int i,.int j=>k (.d (.bl (decide (j≤i))))
 | _,_=>False
theorem bitsOk_ok {i j:Int} (h1:bitsOk i) (h2:bitsOk j):IntMulOk i j:=IntMulOk.of_le (PySem.intBits_le_iff.mpr h1) (PySem.intBits_le_iff.mpr h2) (by decide)
theorem opr_mul:OpR X (binaryOp .Mult) (rI (fun i j=>bitsOk i∧bitsOk j) fun i j=>.int (i*j)):=opI fun _ _ _ _ _ _ _ hc q=>mul_int q (bitsOk_ok hc.1 hc.2)
theorem opr_div:OpR X (binaryOp .FloorDiv) (rI (fun i j=>j≠0∧j.natAbs < 2 ^ 9000) fun i j=>.int (i.fdiv j)):=opI fun i j _ _ _ _ _ hc q=>floordiv_int hc.1 q (.inl (PyProof.noPylong_of_log2 ((Nat.log2_lt (by have:=hc.1; omega)).mpr hc.2)))
theorem opr_cat:OpR X (binaryOp .Add) (fun x y H Q=>∃ l b xs zs,x=.ref l∧y=.ref b∧SqL X.K H l xs∧SqL X.K H b zs∧xs.length+zs.length≤sizeLine∧∀ p,H p=none→Q (.ref p) (upd H p (.lst (xs++zs)))):=by
 intro pins s σ H x y v u Q I rx ry h
 obtain ⟨l,b,xs,zs,rfl,rfl,hH,hB,hz,q⟩:=h
 cases rx
 cases ry
 obtain ⟨its,r,⟨o,n,e,c,d,f⟩,z⟩:=I.list hH
 obtain ⟨its2,r2,⟨o2,n2,e2,c2,d2,f2⟩,z2⟩:=I.list hB
 obtain ⟨cl,dd,dt,sl⟩:=o
 obtain ⟨cl2,dd2,dt2,sl2⟩:=o2
 simp only at c f c2 f2
 subst c f c2 f2
 have hl:=r.length
 have hl2:=r2.length
 refine concat_meets ⟨_,e,rfl⟩ ⟨_,e2,rfl⟩ noFill_list_add seq_list_add PySem.F.slot_list_add PySem.F.entry_list_add (PySem.F.args_list_add_2 _ _) (list_addW l b its.toArray its2.toArray n n2 dd dd2 sl sl2 (by rw [List.size_toArray,List.size_toArray]; omega)) ⟨e,e2,?_⟩
 have ea:its.toArray++its2.toArray=(its++its2).toArray:=by simp
 rw [ea]
 exact ⟨.ref _,_,I.lnew (t':=s.toks) (r.append r2) (by rw [List.length_append]; omega),rfl,q _ I.fresh⟩
theorem od_add:OpD X (binaryOp .Add) opAdd:=by
 intro pins s σ H Pr ρ x y v u dx dy post I rx ry E px py ho
 cases px with
 | int i =>
  cases py with
  | int j=>exact OpD.of op_add (op:=fun x y k=>∃ i j,x=.int i∧y=.int j∧k (.d (.int (i+j)))) (fun σ H Pr ρ x y dx dy post E px py ⟨i,j,e1,e2,h⟩=>by subst e1 e2; cases px; cases py; exact ⟨i,j,rfl,rfl,_,E.cons_d (.int _),h⟩) pins s σ H Pr ρ _ _ v u _ _ post I rx ry E (.int i) (.int j) ⟨i,j,rfl,rfl,ho⟩
  | _=>exact ho.elim
 | str i =>
  cases py with
  | str j=>exact OpD.of op_add_str (op:=fun x y k=>∃ i j,x=.str i∧y=.str j∧i.length+j.length≤sizeLine∧k (.d (.str (i++j)))) (fun σ H Pr ρ x y dx dy post E px py ⟨i,j,e1,e2,z,h⟩=>by subst e1 e2; cases px; cases py; exact ⟨i,j,rfl,rfl,z,_,E.cons_d (.str _),h⟩) pins s σ H Pr ρ _ _ v u _ _ post I rx ry E (.str i) (.str j) ⟨i,j,rfl,rfl,ho.1,ho.2⟩
  | _=>exact ho.elim
 | lst h1 r1 =>
  cases py with
  | lst h2 r2 =>
   refine OpD.of opr_cat (op:=fun x y k=>∃ xs ys,x=.lst xs∧y=.lst ys∧xs.length+ys.length≤sizeLine∧∀ a,k (.own a (xs++ys))) (fun σ H Pr ρ x y dx dy post E px py ⟨xs,ys,e1,e2,z,h⟩=>?_) pins s σ H Pr ρ _ _ v u _ _ post I rx ry E (.lst h1 r1) (.lst h2 r2) ⟨_,_,rfl,rfl,ho.1,ho.2⟩
   subst e1 e2
   cases px with
   | lst h1 r1 =>
    cases py with
    | lst h2 r2=>exact ⟨_,_,_,_,rfl,rfl,h1.l,h2.l,by rw [r1.length,r2.length]; exact z,fun p hp=>⟨_,E.cons_own hp (r1.append r2),h p⟩⟩
  | _=>exact ho.elim
 | _=>cases py <;> exact ho.elim
theorem od_int {f:Value→Value→Sem Value} {C:Int→Int→Prop} {g:Int→Int→V} {gd:Int→Int→D} (h:OpR X f (rI C g)) (hg:∀ K H i j,Rep K H (g i j) (gd i j)) :
  OpD X f (fun x y k=>∃ i j,x=.int i∧y=.int j∧C i j∧k (.d (gd i j))) :=
 OpD.of h fun σ H Pr ρ x y dx dy post E px py ⟨i,j,e1,e2,z,h⟩=>by subst e1 e2; cases px; cases py; exact ⟨i,j,rfl,rfl,z,_,E.cons_d (hg _ _ _ _),h⟩
theorem od_int0 {f:Value→Value→Sem Value} {g:Int→Int→V} {gd:Int→Int→D} (h:OpR X f (rI0 g)) (hg:∀ K H i j,Rep K H (g i j) (gd i j)) :
  OpD X f (fun x y k=>∃ i j,x=.int i∧y=.int j∧k (.d (gd i j))) :=
 OpD.of h fun σ H Pr ρ x y dx dy post E px py ⟨i,j,e1,e2,h⟩=>by subst e1 e2; cases px; cases py; exact ⟨i,j,rfl,rfl,_,E.cons_d (hg _ _ _ _),h⟩
theorem od_sub:OpD X (binaryOp .Sub) opSub:=(od_int0 op_sub (gd:=fun i j=>.int (i - j)) fun _ _ _ _=>.int _).imp fun x y k h=>by
 unfold opSub at h
 split at h
 ·
  exact ⟨_,_,rfl,rfl,h⟩
 ·
  exact h.elim
theorem od_mul:OpD X (binaryOp .Mult) (fun x y k=>∃ i j,x=.int i∧y=.int j∧(bitsOk i∧bitsOk j)∧k (.d (.int (i*j)))):=od_int opr_mul (gd:=fun i j=>.int (i*j)) fun _ _ _ _=>.int _
def opMulI:Op2:=fun x y k=>match x,y with
 | .int i,.int j=>bitsOk i∧bitsOk j∧k (.d (.int (i*j)))
 | _,_=>False
theorem od_mulI:OpD X (binaryOp .Mult) opMulI:=od_mul.imp fun x y k h=>by
 unfold opMulI at h
 split at h
 ·
  exact ⟨_,_,rfl,rfl,⟨h.1,h.2.1⟩,h.2.2⟩
 ·
  exact h.elim
theorem od_div:OpD X (binaryOp .FloorDiv) opDiv:=(od_int opr_div (gd:=fun i j=>.int (i.fdiv j)) fun _ _ _ _=>.int _).imp fun x y k h=>by
 unfold opDiv at h
 split at h
 ·
  exact ⟨_,_,rfl,rfl,⟨h.1,h.2.1⟩,h.2.2⟩
 ·
  exact h.elim
theorem od_mod:OpD X (binaryOp .Mod) opMod:=(od_int op_modN (gd:=fun i j=>.int (i.fmod j)) fun _ _ _ _=>.int _).imp fun x y k h=>by
 unfold opMod at h
 split at h
 ·
  exact ⟨_,_,rfl,rfl,h.1,h.2⟩
 ·
  exact h.elim
theorem od_pow:OpD X (binaryOp .Pow) opPow:=(od_int op_pow (gd:=fun i j=>.int (i ^ j.toNat)) fun _ _ _ _=>.int _).imp fun x y k h=>by
 unfold opPow at h
 split at h
 ·
  exact ⟨_,_,rfl,rfl,⟨h.1,h.2.1,h.2.2.1⟩,h.2.2.2⟩
 ·
  exact h.elim
theorem od_lt:OpD X (compareOp .Lt) opLt:=(od_int0 op_lt (gd:=fun i j=>.bl (decide (i < j))) fun _ _ _ _=>.bl _).imp fun x y k h=>by
 unfold opLt at h
 split at h
 ·
  exact ⟨_,_,rfl,rfl,h⟩
 ·
  exact h.elim
theorem od_le:OpD X (compareOp .LtE) opLe:=(od_int0 op_le (gd:=fun i j=>.bl (decide (i≤j))) fun _ _ _ _=>.bl _).imp fun x y k h=>by
 unfold opLe at h
 split at h
 ·
  exact ⟨_,_,rfl,rfl,h⟩
 ·
  exact h.elim
theorem od_gt:OpD X (compareOp .Gt) opGt:=(od_int0 op_gt (gd:=fun i j=>.bl (decide (j < i))) fun _ _ _ _=>.bl _).imp fun x y k h=>by
 unfold opGt at h
 split at h
 ·
  exact ⟨_,_,rfl,rfl,h⟩
 ·
  exact h.elim
theorem od_ge:OpD X (compareOp .GtE) opGe:=(od_int0 op_ge (gd:=fun i j=>.bl (decide (j≤i))) fun _ _ _ _=>.bl _).imp fun x y k h=>by
 unfold opGe at h
 split at h
 ·
  exact ⟨_,_,rfl,rfl,h⟩
 ·
  exact h.elim
mutual
def toP:D→PyData
 | .non=>.none
 | .bl b=>.bool b
 | .int i=>.int i
 | .str x=>.str x
 | .tup xs=>.tuple (toPs xs)
 | .lst xs=>.list (toPs xs)
 | .dct _=>.dict []
 | .exc _ _ _=>.dict []
 | .fn _ _=>.dict []
def toPs:List D→List PyData
 | []=>[]
 | x::xs=>toP x::toPs xs
end
def eqD (x y:D):Bool:=PyData.eqv (toP x) (toP y)
def shapeD (x:D):Prop:=SeqAt.shaped (toP x)=true
def opEq:Op2:=fun x y k=>shapeD x∧shapeD y∧k (.d (.bl (eqD x y)))
def opNe:Op2:=fun x y k=>shapeD x∧shapeD y∧k (.d (.bl (!eqD x y)))
mutual
theorem reads_of {pins:List (Addr×Obj)} {σ:St} {H:Hp} {s:Shared} (I:Inv X pins σ H s):∀ (d:D) (x:V) (u:Value),RelV x u→Rep X.K H x d→(toP d).canLay0=true→∃ as,Reads s.heap u (toP d) as
 | .non,_,_,rv,r,_=>by cases r; cases rv; exact ⟨_,.none⟩
 | .bl b,_,_,rv,r,_=>by cases r; cases rv; exact ⟨_,.bool b⟩
 | .int i,_,_,rv,r,_=>by cases r; obtain ⟨t,rfl⟩:=rv; exact ⟨_,.int i t⟩
 | .str z,_,_,rv,r,_=>by cases r; obtain ⟨t,rfl⟩:=rv; exact ⟨_,.str z t⟩
 | .tup xs,_,_,rv,r,hc=>by
  cases r with
  | tup h rs =>
   cases rv
   obtain ⟨its,vs,⟨o,e,c,n,d⟩,_⟩:=I.tuple h
   obtain ⟨as,ra⟩:=readsAll_of I xs _ _ vs rs hc
   exact ⟨_,.tuple (xs:=toPs xs) e c d (by simpa using ra)⟩
 | .lst xs,_,_,rv,r,hc=>by
  cases r with
  | lst h rs =>
   cases rv
   obtain ⟨its,vs,⟨o,n,e,c,_,d⟩,_⟩:=I.list h.l
   obtain ⟨as,ra⟩:=readsAll_of I xs _ _ vs rs hc
   exact ⟨_,.list (xs:=toPs xs) e c d (by simpa using ra)⟩
 | .dct _,_,_,_,_,hc=>nomatch hc
 | .exc _ _ _,_,_,_,_,hc=>nomatch hc
 | .fn _ _,_,_,_,_,hc=>nomatch hc
theorem readsAll_of {pins:List (Addr×Obj)} {σ:St} {H:Hp} {s:Shared} (I:Inv X pins σ H s):∀ (ds:List D) (vs:List V) (us:List Value),Vals vs us→Reps X.K H vs ds→PyData.canLayAll0 (toPs ds)=true→∃ as,ReadsAll s.heap us (toPs ds) as
 | [],_,_,rv,r,_=>by cases r; cases rv; exact ⟨_,.nil⟩
 | d::ds,_,_,rv,r,hc=>by
  have hc':(toP d).canLay0=true∧PyData.canLayAll0 (toPs ds)=true:=by simpa [toPs,PyData.canLayAll0] using hc
  cases r with
  | cons r0 rs =>
   cases rv with
   | cons v0 vs =>
    obtain ⟨as,ra⟩:=reads_of I d _ _ v0 r0 hc'.1
    obtain ⟨bs,rb⟩:=readsAll_of I ds _ _ vs rs hc'.2
    exact ⟨_,.cons ra rb⟩
end
theorem od_eq (hu:X.A.units+64 < cLine):OpD X (compareOp .Eq) opEq:=by
 intro pins s σ H Pr ρ x y v u dx dy post I rx ry E px py ⟨h1,h2,ho⟩
 obtain ⟨as,ra⟩:=reads_of I dx x v rx px (SeqAt.canLay_of_shaped h1)
 obtain ⟨bs,rb⟩:=reads_of I dy y u ry py (SeqAt.canLay_of_shaped h2)
 exact eq_dataH ra rb h1 h2 hu ⟨.bl _,H,_,I,rfl,E.cons_d (.bl _),ho⟩
theorem od_ne (hu:X.A.units+64 < cLine):OpD X (compareOp .NotEq) opNe:=by
 intro pins s σ H Pr ρ x y v u dx dy post I rx ry E px py ⟨h1,h2,ho⟩
 obtain ⟨as,ra⟩:=reads_of I dx x v rx px (SeqAt.canLay_of_shaped h1)
 obtain ⟨bs,rb⟩:=reads_of I dy y u ry py (SeqAt.canLay_of_shaped h2)
 exact ne_dataH ra rb h1 h2 hu ⟨.bl _,H,_,I,rfl,E.cons_d (.bl _),ho⟩
theorem od_isN:OpD X (compareOp .Is) (fun x y k=>y=.non∧k (.d (.bl (match x with | .non=>true | _=>false)))):=OpD.of op_isN fun σ H Pr ρ x y dx dy post E px py ⟨e,h⟩=>by
 subst e
 cases py
 refine ⟨rfl,_,E.cons_d (.bl _),?_⟩
 cases px <;> exact h
def opIx:Op2:=fun x y k=>match x,y with
 | .lst xs,.int i=>∃ v,atI xs i=some v∧k (.d v)
 | .tup xs,.int i=>∃ v,atI xs i=some v∧k (.d v)
 | .str z,.int i=>z.length≤sizeLine∧∃ c,atI z.cps.toList i=some c∧k (.d (.str ⟨#[c]⟩))
 | _,_=>False
theorem atI_rep {K:PySem.W.Frag} {H:Hp} {vs:List V} {xs:List D} (r:Reps K H vs xs) {i:Int} {x:D} (h:atI xs i=some x):∃ v,atI vs i=some v∧Rep K H v x:=by
 unfold atI at h ⊢
 rw [r.length]
 cases q:ixN xs.length i with
 | none=>rw [q] at h; cases h
 | some j =>
  rw [q] at h
  exact r.get h
theorem pl_ix (ha:PL X a ta) (hb:PL X b tb) (hs:PlainIx b):PL X (.Subscript a b pos) (wBin opIx ta tb):=by
 intro pins s σ H Pr ρ post I E h
 refine Subscript_ (two (R:=fun dx dy ρ2=>opIx dx dy fun r=>post r ρ2) ha hb I E h fun v u s2 x y H2 dx dy ρ2 I2 r1 r2 E2 p1 p2 q=>?_)
 have fin:∀ (Q:VK),(∀ z H',Q z H'→∃ r,REnv X.K Pr H' (some z::σ) (r::ρ2)∧post r ρ2)→∀ w s',EP X pins σ Q w s'→EL X pins σ Pr post w s':=fun Q hQ w s' ⟨z,H',I',rz,q⟩=>by
  obtain ⟨r,E',p⟩:=hQ z H' q
  exact ⟨z,H',r,ρ2,I',rz,E',p⟩
 have Eσ:=E2.tail.tail
 cases p2 with
 | int i =>
  cases p1 with
  | lst hz rs =>
   obtain ⟨z,hz',q⟩:=q
   obtain ⟨w,hw,rw⟩:=atI_rep rs hz'
   exact thn (ix_list a b pins s2 σ H2 _ _ v u (fun z H'=>z=w∧H'=H2) I2 r1 r2 ⟨_,_,i,w,rfl,rfl,hz.l,hw,rfl,rfl⟩ (hs _ _)) (fin _ fun z H' ⟨e1,e2⟩=>by subst e1 e2; exact ⟨_,Eσ.cons_d rw,q⟩)
  | tup hz rs =>
   obtain ⟨z,hz',q⟩:=q
   obtain ⟨w,hw,rw⟩:=atI_rep rs hz'
   exact thn (ix_tup a b pins s2 σ H2 _ _ v u (fun z H'=>z=w∧H'=H2) I2 r1 r2 ⟨_,_,i,w,rfl,rfl,hz,hw,rfl,rfl⟩ (hs _ _)) (fin _ fun z H' ⟨e1,e2⟩=>by subst e1 e2; exact ⟨_,Eσ.cons_d rw,q⟩)
  | str z =>
   obtain ⟨hz,c,hc,q⟩:=q
   exact thn (ix_str a b pins s2 σ H2 _ _ v u (fun z H'=>z=.str ⟨#[c]⟩∧H'=H2) I2 r1 r2 ⟨z,i,c,rfl,rfl,hz,hc,rfl,rfl⟩ (hs _ _)) (fin _ fun z H' ⟨e1,e2⟩=>by subst e1 e2; exact ⟨_,Eσ.cons_d (.str _),q⟩)
  | _=>exact q.elim
 | _=>cases p1 <;> exact q.elim
end
end L2
namespace L2
open PySem PySem.Spec PyProof.Rows
section
variable {X:Cx} {e a b c:Expr} {es rest:List Expr} {pos p apos:Pos} {ta tb tc:W L} {x:Str} {bs:List (Option Nat)} {t:W (List L)} {id T:String}
abbrev OpN:=List D→(L→Prop)→Prop
def CallD (X:Cx) (f:Value) (op:OpN):Prop :=
 ∀ (pins:List (Addr×Obj)) (s:Shared) (σ:St) (H Pr:Hp) (ρ:Ev) (vs:List V) (us:List Value) (ds:List D) (post:L→Prop),Inv X pins σ H s→Vals vs us→REnv X.K Pr H σ ρ→Reps X.K H vs ds→op ds post →
  wpAny (model X.prog X.w) X.A (call f us) (fun w s'=>∃ z H' r,Inv X pins σ H' s'∧RelV z w∧REnv X.K Pr H' (some z::σ) (r::ρ)∧post r) X.xe s
theorem CallD.of {f:Value} {r:List V→Hp→VK→Prop} {op:OpN} (h:CallR X f r) (q:∀ σ H Pr ρ vs ds post,REnv X.K Pr H σ ρ→Reps X.K H vs ds→op ds post→r vs H fun z H'=>∃ r,REnv X.K Pr H' (some z::σ) (r::ρ)∧post r):CallD X f op :=
 fun pins s σ H Pr ρ vs us ds post I rv E ps ho=>thn (h pins s σ H vs us _ I rv (q σ H Pr ρ vs ds post E ps ho)) fun w s' ⟨z,H',I',rz,r,E',p⟩=>⟨z,H',r,I',rz,E',p⟩
def wCallD (op:OpN) (t:W (List L)):W L:=fun ρ post=>t ρ fun ls ρ1=>toDs ls fun ds=>op ds fun r=>post r ρ1
theorem pl_callD (hc:CallD X (.builtin id) op) (hg:Gl X x) (hm:X.mg x=none) (hv:bootBuiltins x=some (.builtin id)) (ha:PAL X (e::es) bs t) (hn:x≠"__name__":=by decide) (hdb:(x == ("__debug__" : Str))=false:=by decide)
  (he:starEach (e::es) X.env=(false,eval e X.env)::starEach es X.env:=by rfl) (hpl:(backTo pos (starEach es X.env)).any (·.1)=false:=by rfl):PL X (.Call (.Name x p) (e::es) [] pos) (wCallD op t):=by
 intro pins s σ H Pr ρ post I E h
 refine wpAny_Call_Name_kw (ld_blt I hg hm hv ?_ hn hdb)
 refine PyProof.Rows.callWith_builtin1 (thn (ha pos pins s σ H Pr ρ _ I E h) fun us s1 ⟨vs,H1,ls,ρ1,I1,r1,hl,hb,E1,_,q1⟩=>?_) he hpl
 obtain ⟨ds,rfl,q2⟩:=toDs_is q1
 have hlen:vs.length=ds.length:=by simpa using hl
 exact thn (hc pins s1 σ H1 Pr ρ1 vs us ds _ I1 r1 (E1.drop (by simp [hlen])) (reps_of hlen E1) q2) fun w s2 ⟨z,H2,r,I2,rz,E2,q⟩=>⟨z,H2,r,ρ1,I2,rz,E2,q⟩
theorem pl_callTD (hc:CallD X (.type T) op) (hg:Gl X x) (hm:X.mg x=none) (hv:bootBuiltins x=some (.type T)) (ha:PAL X (e::es) bs t) (hn:x≠"__name__":=by decide) (hdb:(x == ("__debug__" : Str))=false:=by decide)
  (he:starEach (e::es) X.env=(false,eval e X.env)::starEach es X.env:=by rfl) (hpl:(backTo pos (starEach es X.env)).any (·.1)=false:=by rfl):PL X (.Call (.Name x p) (e::es) [] pos) (wCallD op t):=by
 intro pins s σ H Pr ρ post I E h
 refine wpAny_Call_Name_kw (ld_blt I hg hm hv ?_ hn hdb)
 refine PyProof.Rows.callWith_type1 (thn (ha pos pins s σ H Pr ρ _ I E h) fun us s1 ⟨vs,H1,ls,ρ1,I1,r1,hl,hb,E1,_,q1⟩=>?_) he hpl
 obtain ⟨ds,rfl,q2⟩:=toDs_is q1
 have hlen:vs.length=ds.length:=by simpa using hl
 exact thn (hc pins s1 σ H1 Pr ρ1 vs us ds _ I1 r1 (E1.drop (by simp [hlen])) (reps_of hlen E1) q2) fun w s2 ⟨z,H2,r,I2,rz,E2,q⟩=>⟨z,H2,r,ρ1,I2,rz,E2,q⟩
def opLen:OpN:=fun ds k=>match ds with
 | [.lst xs]=>k (.d (.int xs.length))
 | [.tup xs]=>k (.d (.int xs.length))
 | [.str x]=>x.length≤sizeLine∧k (.d (.int x.length))
 | _=>False
theorem reps1 {K:PySem.W.Frag} {H:Hp} {vs:List V} {d:D} (r:Reps K H vs [d]):∃ v,vs=[v]∧Rep K H v d:=by
 cases r with
 | cons h t=>cases t; exact ⟨_,rfl,h⟩
theorem reps2 {K:PySem.W.Frag} {H:Hp} {vs:List V} {d d':D} (r:Reps K H vs [d,d']):∃ v w,vs=[v,w]∧Rep K H v d∧Rep K H w d':=by
 cases r with
 | cons h t=>cases t with
  | cons h' t=>cases t; exact ⟨_,_,rfl,h,h'⟩
theorem cd_len:CallD X (.builtin "len") opLen:=CallD.of (call_len_seq.or call_len_str) fun σ H Pr ρ vs ds post E ps h=>by
 unfold opLen at h
 split at h
 ·
  obtain ⟨v,rfl,r⟩:=reps1 ps
  cases r with
  | lst hz rs=>exact .inl ⟨_,_,rfl,.inl hz.l,_,E.cons_d (.int _),by rw [rs.length]; exact h⟩
 ·
  obtain ⟨v,rfl,r⟩:=reps1 ps
  cases r with
  | tup hz rs=>exact .inl ⟨_,_,rfl,.inr hz,_,E.cons_d (.int _),by rw [rs.length]; exact h⟩
 ·
  obtain ⟨v,rfl,r⟩:=reps1 ps
  cases r with
  | str z=>exact .inr ⟨_,rfl,h.1,_,E.cons_d (.int _),h.2⟩
 ·
  exact h.elim
def opAbs:OpN:=fun ds k=>match ds with
 | [.int i]=>k (.d (.int (if i < 0 then -i else i)))
 | _=>False
theorem cd_abs:CallD X (.builtin "abs") opAbs:=CallD.of call_abs fun σ H Pr ρ vs ds post E ps h=>by
 unfold opAbs at h
 split at h
 ·
  obtain ⟨v,rfl,r⟩:=reps1 ps
  cases r with
  | int i=>exact ⟨_,rfl,_,E.cons_d (.int _),h⟩
 ·
  exact h.elim
def opMax:OpN:=fun ds k=>match ds with
 | [.int i,.int j]=>k (.d (.int (if j > i then j else i)))
 | _=>False
def opMin:OpN:=fun ds k=>match ds with
 | [.int i,.int j]=>k (.d (.int (if j < i then j else i)))
 | _=>False
theorem cd_max (hc:X.calm=true):CallD X (.builtin "max") opMax:=CallD.of (call_max2 hc) fun σ H Pr ρ vs ds post E ps h=>by
 unfold opMax at h
 split at h
 ·
  obtain ⟨v,w,rfl,r,r'⟩:=reps2 ps
  cases r with
  | int i=>cases r' with
   | int j=>exact ⟨_,_,rfl,_,E.cons_d (.int _),h⟩
 ·
  exact h.elim
theorem cd_min (hc:X.calm=true):CallD X (.builtin "min") opMin:=CallD.of (call_min2 hc) fun σ H Pr ρ vs ds post E ps h=>by
 unfold opMin at h
 split at h
 ·
  obtain ⟨v,w,rfl,r,r'⟩:=reps2 ps
  cases r with
  | int i=>cases r' with
   | int j=>exact ⟨_,_,rfl,_,E.cons_d (.int _),h⟩
 ·
  exact h.elim
def opInt:OpN:=fun ds k=>match ds with
 | [.int i]=>k (.d (.int i))
 | [.bl b]=>k (.d (.int (if b then 1 else 0)))
 | _=>False
theorem cd_int:CallD X (.type "int") opInt:=CallD.of call_int1 fun σ H Pr ρ vs ds post E ps h=>by
 unfold opInt at h
 split at h
 ·
  obtain ⟨v,rfl,r⟩:=reps1 ps
  cases r with
  | int i=>exact .inl ⟨_,rfl,_,E.cons_d (.int _),h⟩
 ·
  obtain ⟨v,rfl,r⟩:=reps1 ps
  cases r with
  | bl i=>exact .inr ⟨_,rfl,_,E.cons_d (.int _),h⟩
 ·
  exact h.elim
def opList:OpN:=fun ds k=>match ds with
 | [.lst xs]=>∀ a,k (.own a xs)
 | [.tup xs]=>∀ a,k (.own a xs)
 | _=>False
theorem cd_list:CallD X (.type "list") opList:=CallD.of call_list_of fun σ H Pr ρ vs ds post E ps h=>by
 unfold opList at h
 split at h
 ·
  obtain ⟨v,rfl,r⟩:=reps1 ps
  cases r with
  | lst hz rs=>exact ⟨_,_,rfl,.inl hz.l,fun l hl=>⟨_,E.cons_own hl rs,h l⟩⟩
 ·
  obtain ⟨v,rfl,r⟩:=reps1 ps
  cases r with
  | tup hz rs=>exact ⟨_,_,rfl,.inr hz,fun l hl=>⟨_,E.cons_own hl rs,h l⟩⟩
 ·
  exact h.elim
def tyD:D→Value
 | .non=>.type "NoneType"
 | .bl _=>.type "bool"
 | .int _=>.type "int"
 | .str _=>.type "str"
 | .tup _=>.type "tuple"
 | .lst _=>.type "list"
 | .dct _=>.type "dict"
 | .exc _ _ _=>.none
 | .fn _ _=>.type "function"
def TyD (K:PySem.W.Frag) (d:D) (t:Value):Prop:=match d with
 | .exc c _ _=>∃ C,t=.ref C∧excStd K c C=true
 | d=>t=tyD d
theorem exc_inst {pins:List (Addr×Obj)} {σ:St} {H:Hp} {s:Shared} {a:Addr} {o:Obj} {u:HO} {C:Addr} {ns:List Str} {vs:List V} (I:Inv X pins σ H s) (h:H a=some (.frz o u)) (hc:o.cls=.ref C) (hn:PySem.W.notCls o=true) (hf:XF H o.dict ns vs):∃ od,PySem.W.InstAt s.heap a o C od∧∀ d,o.dict=some d→∃ q,od=some q∧s.heap.get? d=some q:=by
 have e:=(show s.heap.get? a=some o∧_ from I.hok a _ h).1
 rcases hf with ⟨_,_,z⟩ | ⟨d,od,z,h2,_⟩
 ·
  exact ⟨none,⟨e,hc,hn,by rw [z]; trivial⟩,fun d q=>by rw [z] at q; cases q⟩
 ·
  have e2:=(show s.heap.get? d=some od∧_ from I.hok d _ h2).1
  exact ⟨some od,⟨e,hc,hn,by rw [z]; exact e2⟩,fun d' q=>by rw [z] at q; cases q; exact ⟨od,rfl,e2⟩⟩
theorem isinst_D {pins:List (Addr×Obj)} {σ:St} {H:Hp} {s:Shared} {x:V} {u c:Value} {d:D} {b:Bool} {Q:Value→Shared→Prop} {A:Around} {E:Value→Shared→Prop} (I:Inv X pins σ H s) (rx:RelV x u) (r:Rep X.K H x d) (e:∀ t,TyD X.K d t→PySem.W.kitOne X.K t c=some b) (h:∀ tk,Q (.bool b) { s with toks:=tk }) :
  wpAny (model X.prog X.w) A (call (.builtin "isinstance") [u,c]) Q E s:=by
 cases r with
 | non=>cases rx; exact PySem.W.kia_one PySem.W.kitx_none I.kIn True.intro (e _ rfl) (fun z=>nomatch z) h
 | bl y=>cases rx; exact PySem.W.kia_one PySem.W.kitx_bool I.kIn True.intro (e _ rfl) (fun z=>nomatch z) h
 | int i=>obtain ⟨t,rfl⟩:=rx; exact PySem.W.kia_one PySem.W.kitx_int I.kIn True.intro (e _ rfl) (fun z=>nomatch z) h
 | str y=>obtain ⟨t,rfl⟩:=rx; exact PySem.W.kia_one PySem.W.kitx_str I.kIn True.intro (e _ rfl) (fun z=>nomatch z) h
 | lst hz rs =>
  cases rx
  obtain ⟨its,_,⟨o,n,e1,c1,_,_⟩,_⟩:=I.list hz.l
  exact PySem.W.kia_one PySem.W.kitx_list I.kIn ⟨o,e1,c1⟩ (e _ rfl) (fun z=>nomatch z) h
 | tup hz rs =>
  cases rx
  obtain ⟨its,_,⟨o,e1,c1,_⟩,_⟩:=I.tuple hz
  exact PySem.W.kia_one PySem.W.kitx_tuple I.kIn ⟨o,e1,c1⟩ (e _ rfl) (fun z=>nomatch z) h
 | @dct a o kvs hz =>
  cases rx
  obtain ⟨_,_,_,vs,_,o',es,ep,h1,h2,_⟩:=(show ObjOk X.prog X.w H s.heap a (.frz o (.dK kvs)) from I.hok a _ hz)
  exact PySem.W.kia_one PySem.W.kitx_dict I.kIn ⟨o',h1,h2.1⟩ (e _ rfl) (fun z=>nomatch z) h
 | @exc a o u cc C ns vs ds h1 hv hc hn hs hq hf rs =>
  cases rx
  obtain ⟨od,Ia,_⟩:=exc_inst I h1 hc hn hf
  obtain ⟨LL,cd,S⟩:=excStd_is hs
  exact PySem.W.kia_one (kitx_exc S) I.kIn ⟨_,_,Ia⟩ (e _ ⟨C,rfl,hs⟩) (fun z=>nomatch z) h
 | fn hl hf hq hc hz hd hv hm r =>
  cases rx
  exact PySem.W.kia_one kitx_fn I.kIn ⟨_,(I.hok _ _ hf).1,rfl⟩ (e _ rfl) (fun z=>nomatch z) h
def isTy (T:String):D→Bool
 | .non=>T == "NoneType"
 | .bl _=>T == "bool" || T == "int"
 | .int _=>T == "int"
 | .str _=>T == "str"
 | .tup _=>T == "tuple"
 | .lst _=>T == "list"
 | .dct _=>T == "dict"
 | .exc _ _ _=>(["ValueError","Exception","BaseException","object"]:List String).contains T
 | .fn _ _=>T == "function"
def opIsT (T:String):D→(L→Prop)→Prop:=fun d k=>k (.d (.bl (isTy T d)))
theorem pl_isT {T:String} {y:Str} {py:Pos} (hT:∀ K d t,TyD K d t→PySem.W.kitOne K t (.type T)=some (isTy T d)) (hg:Gl X "isinstance") (hm:X.mg "isinstance"=none) (hy:Gl X y) (hmy:X.mg y=none) (hby:bootBuiltins y=some (.type T)) (ha:PL X a ta)
  (hny:y≠"__name__":=by decide) (hdy:(y == ("__debug__" : Str))=false:=by decide)
  (h1:starEach [a,.Name y py] X.env=(false,eval a X.env)::starEach [.Name y py] X.env:=by rfl) (h2:starEach [.Name y py] X.env=[(false,eval (.Name y py) X.env)]:=by rfl) (hpl:(backTo pos (starEach [.Name y py] X.env)).any (·.1)=false:=by rfl) :
  PL X (.Call (.Name "isinstance" p) [a,.Name y py] [] pos) (wUn (opIsT T) ta):=by
 have cr:CallR X (.builtin "isinstance") (fun xs H Q=>∃ x d,xs=[x,.ty T]∧Rep X.K H x d∧Q (.bl (isTy T d)) H):=by
  intro pins s σ H xs us Q I rv h
  obtain ⟨x,d,rfl,r,q⟩:=h
  obtain ⟨u,w,rfl,r1,r2⟩:=vals2 rv
  cases r2
  exact isinst_D I r1 r (hT _ d) fun tk=>⟨.bl _,H,I.tok _,rfl,q⟩
 refine PL.of (pe_callB cr hg hm (by decide +kernel) (pa_cons (pl_frz ha).pe (pa_cons (pe_bltn hy hmy hby (v:=.ty T) rfl hny hdy) pa_nil h2) h1) (he:=h1) (hpl:=hpl)) fun σ H Pr ρ post E h=>?_
 refine ⟨Pr,ρ,fun r ρ1=>match r with
  | .d x=>opIsT T x fun r=>post r ρ1
  | _=>False,E,h,fun v H' r ρ' E' p=>?_⟩
 cases r with
 | d x =>
  obtain ⟨_,e1,p1⟩:=E'.head_d
  cases e1
  exact ⟨_,x,rfl,p1,_,ρ',E'.tail.cons_d (.bl _),p⟩
 | _=>exact p.elim
end
end L2
namespace L2
open PySem PySem.Spec PyProof.Rows
section
variable {X:Cx} {e a b c:Expr} {es rest:List Expr} {pos p apos cpos:Pos} {ta tb tc te:W L} {x:Str}
theorem REnv.updOwn {K:PySem.W.Frag} {Pr H:Hp} {σ:St} {ρ:Ev} {i:Nat} {l:Addr} {xs ys:List D} {vs:List V} (E:REnv K Pr H σ ρ) (q:ρ[i]?=some (.own l xs)) (r:Reps K H vs ys):REnv K Pr (upd H l (.lst vs)) σ (ρ.set i (.own l ys)):=by
 obtain ⟨sv,hs,rfl,_⟩:=E.slot q
 have hi:i < ρ.length:=(List.getElem?_eq_some_iff.mp q).1
 have E1:=(E.out q).write r
 have E2:=E1.back (i:=i) (by simp [hi]) hs
 rw [List.set_set] at E2
 exact E2
theorem REnv.ownAt {K:PySem.W.Frag} {Pr H:Hp} {σ:St} {ρ:Ev} {i:Nat} {l:Addr} {xs:List D} (E:REnv K Pr H σ ρ) (q:ρ[i]?=some (.own l xs)):σ[i]?=some (some (.ref l))∧∃ vs,H l=some (.lst vs)∧Reps K H vs xs:=by
 obtain ⟨sv,hs,rfl,r⟩:=E.slot q
 exact ⟨hs,r⟩
def ownV (i:Nat) (ρ:Ev) (k:Addr→List D→Prop):Prop:=match ρ[i]? with
 | some (.own a xs)=>k a xs
 | _=>False
theorem ownV_is {i:Nat} {ρ:Ev} {k:Addr→List D→Prop} (h:ownV i ρ k):∃ a xs,ρ[i]?=some (.own a xs)∧k a xs:=by
 unfold ownV at h
 cases q:ρ[i]? with
 | none=>rw [q] at h; exact h.elim
 | some l =>
  rw [q] at h
  cases l with
  | own a xs=>exact ⟨a,xs,rfl,h⟩
  | un=>exact h.elim
  | d x=>exact h.elim
  | bx _ _=>exact h.elim
  | dic _ _=>exact h.elim
def wApp (i:Nat) (te:W L):W L:=fun ρ post=>ownV i ρ fun _ _=>te ρ fun r ρ1=>toD r fun y=>ownV i ρ1 fun a xs=>xs.length < sizeLine∧post (.d .non) (ρ1.set i (.own a (xs++[y])))
theorem pl_append (i:Nat) (he:PL X e te) (hN:X.N[i]?=some x:=by rfl) (hv:Vis X.env.scope x:=by first | exact Or.inl rfl | exact Or.inr (Or.inl rfl) | exact Or.inr (Or.inr rfl)) (hd:(x == ("__debug__" : Str))=false:=by decide)
  (hcd:(x == ("__classdict__" : Str))=false:=by decide) (hs1:starEach [e] X.env=[(false,eval e X.env)]:=by rfl) (hbase:attributeBase (.Name x p) "append" X.env (eval (.Name x p) X.env)=eval (.Name x p) X.env:=by rfl)
  (hfew:((backTo cpos (starEach [e] X.env)).all (fun x=>!x.1) && (backToKw cpos (keywordEach [] X.env)).all (fun x=>x.1.isSome)
   && decide (([e]).length+([]:List Keyword).length+(if ([]:List Keyword).isEmpty then 0 else 1) < 30))=true:=by rfl)
  (hline:(apos.endLine == cpos.line)=true:=by rfl) (hplain:(backTo cpos (starEach ([]:List Expr) X.env)).any (·.1)=false:=by rfl) :
  PL X (.Call (.Attribute (.Name x p) "append" apos) [e] [] cpos) (wApp i te):=by
 refine PL.of (pe_bm PySem.F.plainAttrs_list PySem.F.slot_list_append PySem.F.type_list_append mt_append (pe_var hN hv hd hcd) (pa_cons (pl_frz he).pe pa_nil hs1) (hbase:=hbase) (hfew:=hfew) (hline:=hline) (hs:=hs1) (hplain:=hplain)) fun σ H Pr ρ post E h=>?_
 obtain ⟨l,xs0,q0,h⟩:=ownV_is h
 obtain ⟨hσ,vs0,hl0,_⟩:=E.ownAt q0
 refine ⟨.ref l,hσ,.inl ⟨rfl,vs0,SqL.of hl0⟩,Pr,ρ,fun r ρ1=>match r with
  | .d y=>ownV i ρ1 fun a xs=>xs.length < sizeLine∧post (.d .non) (ρ1.set i (.own a (xs++[y])))
  | _=>False,E,h,fun v H' r ρ' E' pp=>?_⟩
 cases r with
 | d y =>
  obtain ⟨l',xs,q,hlen,pp⟩:=ownV_is pp
  obtain ⟨hσ',vs,hl,r⟩:=E'.tail.ownAt q
  rw [hσ] at hσ'
  cases hσ'
  obtain ⟨_,e1,p1⟩:=E'.head_d
  cases e1
  exact ⟨l,vs,v,rfl,rfl,hl,by rw [r.length]; exact hlen,_,_,(E'.tail.updOwn q (r.append (.cons p1 .nil))).cons_d .non,pp⟩
 | _=>exact pp.elim
def wIxV (i:Nat) (tb:W L):W L:=fun ρ post=>ownV i ρ fun _ _=>tb ρ fun r ρ1=>toInt r fun j=>ownV i ρ1 fun _ xs=>∃ y,atI xs j=some y∧post (.d y) ρ1
theorem pl_ixV (i:Nat) (hb:PL X b tb) (hs:PlainIx b) (hN:X.N[i]?=some x:=by rfl) (hv:Vis X.env.scope x:=by first | exact Or.inl rfl | exact Or.inr (Or.inl rfl) | exact Or.inr (Or.inr rfl)) (hd:(x == ("__debug__" : Str))=false:=by decide)
  (hcd:(x == ("__classdict__" : Str))=false:=by decide):PL X (.Subscript (.Name x p) b pos) (wIxV i tb):=by
 refine PL.of (pe_ix ix_list (pe_var hN hv hd hcd) hb.pe hs) fun σ H Pr ρ post E h=>?_
 obtain ⟨l,xs0,q0,h⟩:=ownV_is h
 obtain ⟨hσ,vs0,hl0,_⟩:=E.ownAt q0
 refine ⟨.ref l,hσ,Pr,ρ,_,E,h,fun v H' r ρ' E' pp=>?_⟩
 obtain ⟨j,rfl,pp⟩:=toInt_is pp
 obtain ⟨l',xs,q,y,hy,pp⟩:=ownV_is pp
 obtain ⟨hσ',vs,hl,r⟩:=E'.tail.ownAt q
 rw [hσ] at hσ'
 cases hσ'
 obtain ⟨_,e1,p1⟩:=E'.head_d
 cases e1
 cases p1
 obtain ⟨w,hw,rw⟩:=atI_rep r hy
 exact ⟨l,vs,j,w,rfl,rfl,SqL.of hl,hw,_,ρ',E'.tail.cons_d rw,pp⟩
def wLenV (i:Nat):W L:=fun ρ post=>ownV i ρ fun _ xs=>post (.d (.int xs.length)) ρ
theorem pl_lenV (i:Nat) (hg:Gl X "len") (hm:X.mg "len"=none) (hN:X.N[i]?=some x:=by rfl) (hv:Vis X.env.scope x:=by first | exact Or.inl rfl | exact Or.inr (Or.inl rfl) | exact Or.inr (Or.inr rfl)) (hd:(x == ("__debug__" : Str))=false:=by decide)
  (hcd:(x == ("__classdict__" : Str))=false:=by decide) (h1:starEach [.Name x p] X.env=[(false,eval (.Name x p) X.env)]:=by rfl) (hpl:(backTo pos (starEach ([]:List Expr) X.env)).any (·.1)=false:=by rfl) :
  PL X (.Call (.Name "len" apos) [.Name x p] [] pos) (wLenV i):=by
 refine PL.of (pe_callB call_len_seq hg hm PySem.boot_len (pa_cons (pe_var hN hv hd hcd) pa_nil h1) (he:=h1) (hpl:=hpl)) fun σ H Pr ρ post E h=>?_
 obtain ⟨l,xs0,q0,h⟩:=ownV_is h
 obtain ⟨hσ,vs0,hl0,r⟩:=E.ownAt q0
 exact ⟨.ref l,hσ,l,vs0,rfl,.inl (SqL.of hl0),_,ρ,E.cons_d (.int _),by rw [r.length]; exact h⟩
def wSetV (i:Nat) (tb te:W L):W Fl:=fun ρ post=>te ρ fun r ρ1=>toD r fun y=>ownV i ρ1 fun _ _=>tb ρ1 fun r ρ2=>toInt r fun j=>ownV i ρ2 fun a xs=>∃ k,ixN xs.length j=some k∧post .nx (ρ2.set i (.own a (xs.set k y)))
theorem pm_setV (i:Nat) {b:Expr} {ps:Pos} (hb:PL X b tb) (he:PL X e te) (hN:X.N[i]?=some x:=by rfl) (hv:Vis X.env.scope x:=by first | exact Or.inl rfl | exact Or.inr (Or.inl rfl) | exact Or.inr (Or.inr rfl)) (hd:(x == ("__debug__" : Str))=false:=by decide)
  (hcd:(x == ("__classdict__" : Str))=false:=by decide)
  (ha:∀ v,assign (.Subscript (.Name x p) b ps) X.env v=(do
   let ov ← holding [v] (eval (.Name x p) X.env)
   let iv ← holding [v,ov] (eval b X.env)
   standAt ps
   holding [v,ov,iv] (setItem ov iv v)
   release [v,ov,iv] []):=by intro _; rfl)
  (hs:swapsWithSole [.Subscript (.Name x p) b ps] e pos.line X.env=pure false:=by rfl) (hw:swappedStores [.Subscript (.Name x p) b ps] e X.env=pure none:=by rfl)
  (h1:(assignEach [.Subscript (.Name x p) b ps] X.env).map (·.2)=[assign (.Subscript (.Name x p) b ps) X.env]:=by rfl):PM X (.Assign [.Subscript (.Name x p) b ps] e pos) (wSetV i tb te):=by
 refine PM.of (ps_asg (pl_frz he).pe (pg_sub (pe_var hN hv hd hcd) hb.pe set_list ha) hs hw h1) fun σ H Pr ρ post hlen E h=>?_
 refine ⟨Pr,ρ,fun r ρ1=>match r with
  | .d y=>ownV i ρ1 fun _ _=>tb ρ1 fun r ρ2=>toInt r fun j=>ownV i ρ2 fun a xs=>∃ k,ixN xs.length j=some k∧post .nx (ρ2.set i (.own a (xs.set k y)))
  | _=>False,E,h,fun v H' r ρ' E' pp=>?_⟩
 cases r with
 | d y =>
  obtain ⟨l,xs0,q0,pp⟩:=ownV_is pp
  obtain ⟨hσ,vs0,hl0,_⟩:=E'.tail.ownAt q0
  refine ⟨.ref l,hσ,butOwn H' ρ',ρ',_,E'.tail.wide,pp,fun w H2 r2 ρ2 E2 pp=>?_⟩
  obtain ⟨j,rfl,pp⟩:=toInt_is pp
  obtain ⟨l',xs,q,k,hk,pp⟩:=ownV_is pp
  obtain ⟨_,e1,p1⟩:=E2.head_d
  cases e1
  cases p1
  have E3:REnv X.K Pr H2 (some (.int j)::some v::σ) (.d (.int j)::.d y::ρ2):=REnv.step (τ:=[some v]) (lam:=[.d y]) (w:=[some (.int j)]) (μ:=[.d (.int j)]) E' rfl E2 rfl
  obtain ⟨_,e1,p1⟩:=E3.tail.head_d
  cases e1
  obtain ⟨hσ',vs,hl,r⟩:=E3.tail.tail.ownAt q
  rw [hσ] at hσ'
  cases hσ'
  refine ⟨l,vs,j,k,rfl,rfl,hl,by rw [r.length]; exact hk,_,E3.tail.tail.updOwn q (r.set p1 k),pp⟩
 | _=>exact pp.elim
def wPart:Option (W L)→Ev→(Option Int→Ev→Prop)→Prop
 | none=>fun ρ k=>k none ρ
 | some t=>fun ρ k=>t ρ fun r ρ1=>toInt r fun i=>k (some i) ρ1
def cutD {α:Type} (xs:List α) (lo hi:Option Int):List α:=(xs.drop (HT.sIx xs.length 0 lo)).take (HT.sIx xs.length xs.length hi - HT.sIx xs.length 0 lo)
end
end L2
namespace L2
open PySem PySem.Spec PyProof.Rows
def unsAt:List Nat→Ev→Ev
 | [],ρ=>ρ
 | j::r,ρ=>(unsAt r ρ).set j .un
def capsOf (fi:List Nat) (ρ:Ev):Ev:=fi.map fun j=>(ρ[j]?).getD .un
def capSt (fi:List Nat) (σ:St):St:=fi.map fun j=>(σ[j]?).getD none
def putAll:List Nat→Ev→Ev→Ev
 | j::r,c::cs,ρ=>putAll r cs (ρ.set j c)
 | _,_,ρ=>ρ
theorem unsAt_len:∀ (fi:List Nat) (ρ:Ev),(unsAt fi ρ).length=ρ.length
 | [],_=>rfl
 | j::r,ρ=>by unfold unsAt; rw [List.length_set,unsAt_len r ρ]
theorem unsAt_get:∀ (fi:List Nat) (ρ:Ev) (j:Nat),j∉fi→(unsAt fi ρ)[j]?=ρ[j]?
 | [],_,_,_=>rfl
 | i::r,ρ,j,h=>by
  unfold unsAt
  rw [List.getElem?_set_ne (fun e=>h (by simp [e])),unsAt_get r ρ j fun e=>h (List.mem_cons_of_mem _ e)]
theorem unsAt_un:∀ (fi:List Nat) (ρ:Ev) (j:Nat),j∈fi→j < ρ.length→(unsAt fi ρ)[j]?=some .un
 | i::r,ρ,j,h,hl=>by
  unfold unsAt
  by_cases e:i=j
  ·
   subst e
   rw [List.getElem?_set_self (by rw [unsAt_len]; exact hl)]
  ·
   rw [List.getElem?_set_ne e]
   exact unsAt_un r ρ j ((List.mem_cons.mp h).resolve_left fun z=>e z.symm) hl
section
variable {K:PySem.W.Frag} {Pr H H':Hp} {σ τ σ' w:St} {ρ μ lam ρ':Ev}
theorem REnv.takeAt (E:REnv K Pr H σ ρ) {i:Nat} {l:L} {s:Option V} (h:ρ[i]?=some l) (hs:σ[i]?=some s):REnv K Pr H (s::σ) (l::ρ.set i .un):=E.outL h hs
theorem REnv.takes (E:REnv K Pr H σ ρ):∀ (fi:List Nat),fi.Nodup→(∀ j∈fi,j < ρ.length)→REnv K Pr H (capSt fi σ++σ) (capsOf fi ρ++unsAt fi ρ)
 | [],_,_=>E
 | j::r,nd,hl=>by
  have ih:=E.takes r (List.nodup_cons.mp nd).2 fun i hi=>hl i (List.mem_cons_of_mem _ hi)
  have hj:j < ρ.length:=hl j List.mem_cons_self
  have hjs:j < σ.length:=by rw [E.len]; exact hj
  have e1:(capsOf r ρ++unsAt r ρ)[r.length+j]?=some ρ[j]:=by
   rw [List.getElem?_append_right (by simp [capsOf])]
   simp only [capsOf,List.length_map,Nat.add_sub_cancel_left]
   rw [unsAt_get r ρ j (List.nodup_cons.mp nd).1]
   exact List.getElem?_eq_getElem hj
  have e2:(capSt r σ++σ)[r.length+j]?=some σ[j]:=by
   rw [List.getElem?_append_right (by simp [capSt])]
   simp only [capSt,List.length_map,Nat.add_sub_cancel_left]
   exact List.getElem?_eq_getElem hjs
  have z:=ih.takeAt e1 e2
  rw [List.set_append_right _ _ (by simp [capsOf])] at z
  simp only [capsOf,List.length_map,Nat.add_sub_cancel_left] at z
  have c1:capSt (j::r) σ=σ[j]::capSt r σ:=by simp [capSt,hjs]
  have c2:capsOf (j::r) ρ=ρ[j]::capsOf r ρ:=by simp [capsOf,hj]
  rw [c1,c2]
  exact z
theorem REnv.backs:∀ (fi:List Nat) {cs ρ:Ev},fi.Nodup→cs.length=fi.length→(∀ j∈fi,ρ[j]?=some .un)→(∀ j∈fi,j < σ.length)→REnv K Pr H (capSt fi σ++σ) (cs++ρ)→REnv K Pr H σ (putAll fi cs ρ)
 | [],[],ρ,_,_,_,_,E=>E
 | j::r,c::cs,ρ,nd,hl,hu,hs,E=>by
  have hjs:j < σ.length:=hs j List.mem_cons_self
  have hj:=hu j List.mem_cons_self
  have c1:capSt (j::r) σ=σ[j]::capSt r σ:=by simp [capSt,hjs]
  rw [c1] at E
  have hlr:cs.length=r.length:=by simpa using hl
  have z:=REnv.back (σ:=capSt r σ++σ) (ρ:=cs++ρ) (l:=c) E (i:=r.length+j) (by
   rw [List.getElem?_append_right (by omega),hlr,Nat.add_sub_cancel_left]; exact hj) (by
   rw [List.getElem?_append_right (by simp [capSt])]
   simp only [capSt,List.length_map,Nat.add_sub_cancel_left]
   exact List.getElem?_eq_getElem hjs)
  rw [List.set_append_right _ _ (by omega),hlr,Nat.add_sub_cancel_left] at z
  exact REnv.backs r (List.nodup_cons.mp nd).2 hlr (fun i hi=>by
   rw [List.getElem?_set_ne (fun e=>(List.nodup_cons.mp nd).1 (by rw [e]; exact hi))]; exact hu i (List.mem_cons_of_mem _ hi)) (fun i hi=>hs i (List.mem_cons_of_mem _ hi)) z
 | [],_::_,_,_,hl,_,_,_=>by simp at hl
 | _::_,[],_,_,hl,_,_,_=>by simp at hl
end
def clOf (cells:List (Str×Addr)):List (Str×NameKind)→List (Str×Addr)→List (Str×Addr)
 | [],acc=>acc
 | (n,k)::r,acc=>clOf cells r (if k == .free then (match cells.lookup n with | some c=>(n,c)::acc | none=>acc) else acc)
theorem closure_eq {env:Env}:∀ (names:List (Str×NameKind)) (acc:List (Str×Addr)),(∀ x∈names,x.2=.free→∃ c,env.cells.lookup x.1=some c) →
  (forIn names acc fun (x:Str×NameKind) (cs:List (Str×Addr))=>(if x.2 == .free then do let c ← cellOf env x.1; pure (ForInStep.yield ((x.1,c)::cs)) else pure (ForInStep.yield cs):Sem (ForInStep (List (Str×Addr)))))=pure (clOf env.cells names acc)
 | [],acc,_=>rfl
 | (n,k)::r,acc,h=>by
  rw [List.forIn_cons]
  by_cases hk:(k == NameKind.free)=true
  ·
   obtain ⟨c,hc⟩:=h (n,k) List.mem_cons_self (by simpa using hk)
   have e:cellOf env n=pure c:=by unfold cellOf; rw [show env.cells.lookup n=some c from hc]
   simp only [hk,if_true,e,pure_bind,clOf,hc]
   exact closure_eq r _ fun x hx=>h x (List.mem_cons_of_mem _ hx)
  ·
   simp only [hk,clOf,if_false,pure_bind]
   exact closure_eq r _ fun x hx=>h x (List.mem_cons_of_mem _ hx)
theorem closureFor_cl {scope:Scope} {env:Env} (h:∀ x∈scope.names,x.2=.free→∃ c,env.cells.lookup x.1=some c):closureFor scope env=pure (clOf env.cells scope.names []):=by
 have:=closure_eq (env:=env) scope.names [] h
 unfold closureFor
 simp only [bind_pure_comp] at this ⊢
 rw [this]
 rfl
theorem clOf_sub {cells:List (Str×Addr)}:∀ (names:List (Str×NameKind)) (acc:List (Str×Addr)),(∀ x c,acc.lookup x=some c→cells.lookup x=some c)→∀ x c,(clOf cells names acc).lookup x=some c→cells.lookup x=some c
 | [],acc,h,x,c,e=>h x c e
 | (n,k)::r,acc,h,x,c,e=>by
  unfold clOf at e
  refine clOf_sub r _ (fun y d ey=>?_) x c e
  split at ey
  ·
   split at ey
   ·
    rename_i q
    rw [List.lookup_cons] at ey
    split at ey
    ·
     rename_i e2
     have:y=n:=by simpa using e2
     cases ey
     rw [this]; exact q
    ·
     exact h y d ey
   ·
    exact h y d ey
  ·
   exact h y d ey
theorem lookup_some_cons {n:Str} {c:Addr} {acc:List (Str×Addr)} {x:Str} (h:∃ d,acc.lookup x=some d):∃ d,((n,c)::acc).lookup x=some d:=by
 rw [List.lookup_cons]
 split
 ·
  exact ⟨_,rfl⟩
 ·
  exact h
theorem clOf_has {cells:List (Str×Addr)}:∀ (names:List (Str×NameKind)) (acc:List (Str×Addr)) (x:Str),((∃ d,acc.lookup x=some d)∨((x,NameKind.free)∈names∧∃ c,cells.lookup x=some c))→∃ d,(clOf cells names acc).lookup x=some d
 | [],acc,x,h=>by
  rcases h with h | ⟨h,_⟩
  ·
   exact h
  ·
   simp at h
 | (n,k)::r,acc,x,h=>by
  unfold clOf
  refine clOf_has r _ x ?_
  rcases h with h | ⟨hm,c,hc⟩
  ·
   left
   split
   ·
    split
    ·
     exact lookup_some_cons h
    ·
     exact h
   ·
    exact h
  ·
   rcases List.mem_cons.mp hm with e | hm
   ·
    cases e
    left
    simp only [hc,beq_self_eq_true,if_true]
    exact ⟨c,by simp [List.lookup_cons]⟩
   ·
    exact .inr ⟨hm,c,hc⟩
def cxComp (X:Cx) (scope:Scope) (cl:List (Str×Addr)) (Nb:List Str) (s₀:Shared) (H₀:Hp) (fp:List Addr):Cx :=
 { X with N:=Nb,s₀:=s₀,H₀:=H₀,env:=compEnvC scope cl s₀.heap.objs.size X.env,outer:=X.stack,stack:=X.stack,ex:=fp,fn:=fun _=>false,pn:=[],xe:=fun _ _=>False }
end L2
namespace L2
open PySem PySem.Spec PyProof.Rows
theorem paired_iff {α β:Type} {F:α→β→Prop}:∀ {a:List α} {b:List β},Paired F a b↔a.length=b.length∧∀ p∈a.zip b,F p.1 p.2
 | [],[]=>⟨fun _=>⟨rfl,fun _ h=>by simp at h⟩,fun _=>.nil⟩
 | [],_::_=>⟨(fun h=>nomatch h),fun h=>by simp at h⟩
 | _::_,[]=>⟨(fun h=>nomatch h),fun h=>by simp at h⟩
 | x::a,y::b=>by
  constructor
  ·
   intro h
   cases h with
   | cons r t =>
    obtain ⟨h1,h2⟩:=paired_iff.mp t
    exact ⟨by simp [h1],fun p hp=>by
     rw [List.zip_cons_cons] at hp
     rcases List.mem_cons.mp hp with rfl | hp
     ·
      exact r
     ·
      exact h2 p hp⟩
  ·
   rintro ⟨hl,h⟩
   exact .cons (h (x,y) (by simp)) (paired_iff.mpr ⟨by simpa using hl,fun p hp=>h p (by rw [List.zip_cons_cons]; exact List.mem_cons_of_mem _ hp)⟩)
theorem owns_zip:∀ {σ:St} {ρ:Ev},σ.length=ρ.length→(σ.zip ρ).map (·.2)=ρ
 | [],[],_=>rfl
 | _::σ,l::ρ,h=>by
  have ih:=owns_zip (σ:=σ) (ρ:=ρ) (by simpa using h)
  rw [List.zip_cons_cons,List.map_cons,ih]
 | [],_::_,h=>by simp at h
 | _::_,[],h=>by simp at h
theorem REnv.rearr {K:PySem.W.Frag} {Pr H:Hp} {σ σ2:St} {ρ ρ2:Ev} (E:REnv K Pr H σ ρ) (hl:σ2.length=ρ2.length) (extra:List (Option V×L)) (h:(σ.zip ρ).Perm (σ2.zip ρ2++extra)):REnv K Pr H σ2 ρ2:=by
 have pm:(owns ρ).Perm (owns ρ2++owns (extra.map (·.2))):=by
  have q:=owns_perm (h.map (·.2))
  rw [List.map_append,owns_zip E.len,owns_zip hl,owns_append] at q
  exact q
 refine ⟨E.sub,(List.nodup_append.mp (pm.nodup_iff.mp E.nd)).1,fun a ha=>E.off a (pm.mem_iff.mpr (List.mem_append_left _ ha)),paired_iff.mpr ⟨hl,fun p hp=>?_⟩⟩
 exact (paired_iff.mp E.sl).2 p (h.mem_iff.mpr (List.mem_append_left _ hp))
theorem capSt_app {fi:List Nat} {σ τ:St} (h:∀ j∈fi,j < σ.length):capSt fi (σ++τ)=capSt fi σ:=by
 unfold capSt
 refine List.map_congr_left fun j hj=>?_
 rw [List.getElem?_append_left (h j hj)]
theorem capsOf_app {fi:List Nat} {σ τ:Ev} (h:∀ j∈fi,j < σ.length):capsOf fi (σ++τ)=capsOf fi σ:=by
 unfold capsOf
 refine List.map_congr_left fun j hj=>?_
 rw [List.getElem?_append_left (h j hj)]
theorem unsAt_app {τ:Ev}:∀ {fi:List Nat} {ρ:Ev},(∀ j∈fi,j < ρ.length)→unsAt fi (ρ++τ)=unsAt fi ρ++τ
 | [],_,_=>rfl
 | j::r,ρ,h=>by
  unfold unsAt
  rw [unsAt_app fun i hi=>h i (List.mem_cons_of_mem _ hi),List.set_append_left _ _ (by rw [unsAt_len]; exact h j List.mem_cons_self)]
theorem putAll_app {τ:Ev}:∀ {fi:List Nat} {cs ρ:Ev},(∀ j∈fi,j < ρ.length)→putAll fi cs (ρ++τ)=putAll fi cs ρ++τ
 | [],[],_,_=>rfl
 | [],_::_,_,_=>rfl
 | _::_,[],_,_=>rfl
 | j::r,c::cs,ρ,h=>by
  unfold putAll
  rw [List.set_append_left _ _ (h j List.mem_cons_self)]
  exact putAll_app fun i hi=>by rw [List.length_set]; exact h i (List.mem_cons_of_mem _ hi)
theorem lookup_relabel_free {env:Env}:∀ {names:List (Str×NameKind)} {x:Str},names.lookup x=some .free →
  (names.map fun (n,k)=>if (k == NameKind.free && env.scope.kind == .function && env.kindOf n == some .cell) then (n,NameKind.cell) else (n,k)).lookup x=some .cell ∨
  (names.map fun (n,k)=>if (k == NameKind.free && env.scope.kind == .function && env.kindOf n == some .cell) then (n,NameKind.cell) else (n,k)).lookup x=some .free
 | [],_,h=>by simp at h
 | (n,k)::r,x,h=>by
  have ih:=@lookup_relabel_free env r x
  rw [List.map_cons]
  cases hx:x == n with
  | true =>
   simp only [List.lookup_cons,hx] at h
   cases h
   dsimp only
   by_cases hc:(NameKind.free == NameKind.free && env.scope.kind == .function && env.kindOf n == some .cell)=true
   ·
    left; rw [if_pos hc]; simp [List.lookup_cons,hx]
   ·
    right; rw [if_neg hc]; simp [List.lookup_cons,hx]
  | false =>
   simp only [List.lookup_cons,hx] at h
   dsimp only
   by_cases hc:(k == NameKind.free && env.scope.kind == .function && env.kindOf n == some .cell)=true
   ·
    rw [if_pos hc]; simp only [List.lookup_cons,hx]; exact ih h
   ·
    rw [if_neg hc]; simp only [List.lookup_cons,hx]; exact ih h
theorem relabel_mem {env:Env}:∀ {names:List (Str×NameKind)} {x:Str} {k:NameKind},(∀ y∈names,y.2≠.cell)→(k=.cell∨k=.free) →
  (names.map fun (n,k)=>if (k == NameKind.free && env.scope.kind == .function && env.kindOf n == some .cell) then (n,NameKind.cell) else (n,k)).lookup x=some k→(x,NameKind.free)∈names
 | [],_,_,_,_,h=>by simp at h
 | (n,k0)::r,x,k,hc,hk,h=>by
  rw [List.map_cons] at h
  dsimp only at h
  by_cases q:(k0 == NameKind.free && env.scope.kind == .function && env.kindOf n == some .cell)=true
  ·
   rw [if_pos q,List.lookup_cons] at h
   have e0:k0=.free:=by
    have:=(Bool.and_eq_true_iff.mp (Bool.and_eq_true_iff.mp q).1).1
    simpa using this
   split at h
   ·
    rename_i e
    have:x=n:=by simpa using e
    subst this e0
    exact List.mem_cons_self
   ·
    exact List.mem_cons_of_mem _ (relabel_mem (fun y hy=>hc y (List.mem_cons_of_mem _ hy)) hk h)
  ·
   rw [if_neg q,List.lookup_cons] at h
   split at h
   ·
    rename_i e
    have:x=n:=by simpa using e
    subst this
    have e1:k0=k:=by simpa using h
    subst e1
    rcases hk with z | z
    ·
     exact absurd z (hc (x,k0) List.mem_cons_self)
    ·
     subst z; exact List.mem_cons_self
   ·
    exact List.mem_cons_of_mem _ (relabel_mem (fun y hy=>hc y (List.mem_cons_of_mem _ hy)) hk h)
end L2
namespace L2
open PySem PySem.Spec PyProof.Rows
section
variable {prog:Program} {w:World} {A:Around} {R:Result→Shared→Prop}
theorem comp_loop {elt target iter:Expr} {ifs:List Expr} {scope:Scope} {pos:Pos} {it acc:Value} {env:Env} (I:Nat→Shared→Prop)
  (turn:∀ n s,I n s→wpAny (model prog w) A (pyNext it) (fun r s₁=>match r with
   | none=>R (.ok .next) s₁
   | some v=>wpAny (model prog w) A (letOwnedTupleGo target it v) (fun _ s₀=>wpAny (model prog w) A (assign target env v) (fun _ s₂ =>
     wpAny (model prog w) A (forIn ifs true fun c r=>if r=true then do let ok ← isTrue c env (eval c env); pure (ForInStep.yield ok) else pure (ForInStep.yield r)) (fun ok s₃ =>
      if ok=true then wpAny (model prog w) A (eval elt env) (fun x s₄ =>
       wpAny (model prog w) A (call (.builtin "list.append") [acc,x]) (fun _ s₅=>∃ m,m < n∧I m s₅) (fun _ _=>False) s₄) (fun _ _=>False) s₃
      else ∃ m,m < n∧I m s₃) (fun _ _=>False) s₂) (fun _ _=>False) s₀) (fun _ _=>False) s₁) (fun _ _=>False) s)
  (n:Nat) {s:Shared} (h:I n s) :
  codeAny (model prog w) A (.compLoop (.ListComp elt [⟨target,iter,ifs,0⟩] scope pos) 0 it acc env) R s:=by
 refine codeAny_loop rfl I (fun n s hI=>?_) n h
 show wpAny _ A ((compTurn (.ListComp elt [⟨target,iter,ifs,0⟩] scope pos) 0 it acc env).onRaise (fun x=>do noteFrame x env; theTreesLotGoes x)) _ _ s
 refine wpAny_noted ?_
 rw [compTurn_list]
 have fe:∀ {α:Type} {t:Sem α} {Q:α→Shared→Prop} {E:Value→Shared→Prop} {s:Shared},wpAny (model prog w) A t Q (fun _ _=>False) s→wpAny (model prog w) A t Q E s:=fun h=>wpAny_mono h (fun _ _ q=>q) fun _ _ z=>z.elim
 refine wpAny_bind (wpAny_standAt (wpAny_bind (wpAny_mono (turn n s hI) (fun r s₁ h₁=>?_) fun _ _ h'=>h'.elim)))
 cases r with
 | none=>exact wpAny_pure h₁
 | some v =>
  refine wpAny_bind (wpAny_mono h₁ (fun _ s₀ h₀=>?_) fun _ _ z=>z.elim)
  refine wpAny_bind (wpAny_mono h₀ (fun _ s₂ h₂=>wpAny_bind (wpAny_mono h₂ (fun ok s₃ h₃=>?_) fun _ _ h'=>h'.elim)) fun _ _ h'=>h'.elim)
  cases ok with
  | false=>exact wpAny_pure ⟨rfl,h₃⟩
  | true =>
   exact wpAny_bind (wpAny_bind (wpAny_mono h₃ (fun x s₄ h₄=>wpAny_bind (wpAny_mono h₄ (fun _ s₅ h₅=>wpAny_pure (wpAny_pure ⟨rfl,h₅⟩)) fun _ _ h'=>h'.elim)) fun _ _ h'=>h'.elim))
end
def PTc (X:Cx) (tg:Expr) (n:Nat) (g:Tg):Prop:=∃ gg:TG,PG X tg gg∧∀ v σ H Pr ρ x k,σ.length=X.N.length→REnv X.K Pr H σ ρ→Rep X.K H v x→g x ρ k→gg v σ H fun σ' H'=>H'=H∧σ'.drop n=σ.drop n∧∃ ρ',REnv X.K Pr H σ' ρ'∧k ρ'
theorem tc_name {X:Cx} {i n:Nat} {x:Str} {pos:Pos} (hn:i < n) (hN:X.N.Nodup) (hi:X.N[i]?=some x) (hx:Loc X.env.scope x) (hf:X.fn x=true∨X.env.scope.names.lookup x=some .local:=by first | exact .inl rfl | exact .inr rfl | assumption):PTc X (.Name x pos) n (tgName i) :=
 ⟨_,pg_name hN hi hx hf,fun v σ H Pr ρ x k hl E r h=>⟨rfl,by rw [List.drop_set_of_lt hn],_,(E.cons_d r).store (by rw [hl]; exact (List.getElem?_eq_some_iff.mp hi).1),h⟩⟩
def PIf (X:Cx) (ifs:List Expr) (t:W Bool):Prop :=
 ∀ (pins:List (Addr×Obj)) (s:Shared) (σ:St) (H Pr:Hp) (ρ:Ev) (post:Bool→Ev→Prop),Inv X pins σ H s→REnv X.K Pr H σ ρ→t ρ post →
  wpAny (model X.prog X.w) X.A (forIn ifs true fun c r=>if r=true then do let ok ← isTrue c X.env (eval c X.env); pure (ForInStep.yield ok) else pure (ForInStep.yield r)) (EB X pins σ Pr post) X.xe s
def wTrue:W Bool:=fun ρ post=>post true ρ
theorem pif_nil {X:Cx}:PIf X [] wTrue:=fun pins s σ H Pr ρ post I E h=>wpAny_tests_nil ⟨H,ρ,I,E,h⟩
def compL (g:Tg) (ti:W Bool) (te:W L):List D→Ev→List D→(List D→Ev→Prop)→Prop
 | [],ρ,acc,k=>k acc ρ
 | x::xs,ρ,acc,k=>g x ρ fun ρ1=>ti ρ1 fun b ρ2=>if b=true then te ρ2 fun r ρ3=>toD r fun y=>compL g ti te xs ρ3 (acc++[y]) k else compL g ti te xs ρ2 acc k
def wComp (n:Nat) (fi:List Nat) (src:W (List D)) (g:Tg) (ti:W Bool) (te:W L):W L:=fun ρ post=>src ρ fun xs ρ1=>xs.length≤sizeLine ∧
 compL g ti te xs (List.replicate n .un++capsOf fi ρ1) [] fun ys ρb=>∀ a,post (.own a ys) (putAll fi (ρb.drop n) (unsAt fi ρ1))
section
variable {X:Cx}
theorem comp_core {elt tg iter:Expr} {ifs:List Expr} {scope sc:Scope} {pos:Pos} {N Nt Nf:List Str} {fi:List Nat} {src:W (List D)} {g:Tg} {ti:W Bool} {te:W L}
  (hsc:X.env.scope=sc) (hXN:X.N=N) (hc:X.calm=true) (hi:PIL X tg iter src)
  (hkind:scope.kind=.function) (hnames:∀ x∈scope.names,x.2=.local→scope.names.lookup x.1=some .local) (hcell:∀ y∈scope.names,y.2≠.cell)
  (hfr:∀ x∈scope.names,x.2=.free→sc.names.lookup x.1=some .cell∨sc.names.lookup x.1=some .free)
  (hnd:fi.Nodup) (hNf:Nf.map some=fi.map (fun j=>N[j]?)) (hNk:∀ x∈Nf,scope.names.lookup x=some .free) (hfl:∀ j∈fi,j < N.length)
  (hg:∀ cl s₀ H₀ fp,PTc (cxComp X scope cl (Nt++Nf) s₀ H₀ fp) tg Nt.length g) (hti:∀ cl s₀ H₀ fp,PIf (cxComp X scope cl (Nt++Nf) s₀ H₀ fp) ifs ti) (hte:∀ cl s₀ H₀ fp,PL (cxComp X scope cl (Nt++Nf) s₀ H₀ fp) elt te)
  {pins:List (Addr×Obj)} {s:Shared} {σ:St} {H Pr:Hp} {ρ:Ev} {post:L→Ev→Prop} {use:Option (Value→Sem Unit)} {Q:Value→Shared→Prop} (I:Inv X pins σ H s) (E:REnv X.K Pr H σ ρ) (h:wComp Nt.length fi src g ti te ρ post)
  (hRR:∀ D C s7 H6 acc ρ'' m,Inv X pins σ H6 s7→s7.heap.Ns C m→H6 C=none→C≠X.env.locals→X.s₀.heap.objs.size≤C→(∀ x c,X.env.cells.lookup x=some c→c≠C)→(∀ p∈X.pn++pins,p.1≠C)→REnv X.K Pr H6 (some (.ref D)::σ) (.own D acc::ρ'')→post (.own D acc) ρ'' →
   compPost (model X.prog X.w) X.A X.xe use Q (.ref D) C (.ok .next) s7)
  (hs:∀ x,foldedSetIterable iter X.env x=pure x):wpAny (model X.prog X.w) X.A (comprehension (.ListComp elt [⟨tg,iter,ifs,0⟩] scope pos) scope X.env (firstIterPos [⟨tg,iter,ifs,0⟩] pos) (newList []) false (eval iter X.env) use) Q X.xe s:=by
 have hcells:∀ x∈scope.names,x.2=.free→∃ c,X.env.cells.lookup x.1=some c:=fun x hx hk=>I.ok.has x.1 (by
  show X.env.scope.names.lookup x.1=_∨X.env.scope.names.lookup x.1=_
  rw [hsc]; exact hfr x hx hk)
 have hsub:=clOf_sub (cells:=X.env.cells) scope.names [] (fun x c e=>by simp at e)
 refine wpAny_comprehension_free (use:=use) rfl hs (closureFor_cl hcells) hkind hnames (thn (hi pins s σ H Pr ρ _ I E h) fun v s1 h1=>thn h1 fun itv s2 h2=>?_)
 obtain ⟨it,fp,tn,J,H2,xs,ρ2,e,I2,T,st2,f2,E2,G,hlen,w0⟩:=h2
 subst e
 refine wpAny_newObj_type (T:="list") ?_
 generalize hD:s2.heap.objs.size=D
 have fD:H2 D=none:=by rw [← hD]; exact I2.fresh
 have I3:Inv X pins σ (upd H2 D (.lst [])) { s2 with heap:=s2.heap.push { cls:=.type "list",dict:=none,data:=.seq ([]:List Value).toArray } }:=by
  have:=Inv.lnew (ys:=[]) (its:=[]) (t':=s2.toks) I2 .nil (Nat.zero_le _)
  rw [hD] at this
  exact this
 have E3:=E2.cons_own (p:=D) (vs:=[]) (xs:=[]) fD .nil
 have sz3:(s2.heap.push { cls:=.type "list",dict:=none,data:=.seq ([]:List Value).toArray }).objs.size=D+1:=by rw [Heap.size_push,hD]
 generalize hs3:({ s2 with heap:=s2.heap.push { cls:=.type "list",dict:=none,data:=.seq ([]:List Value).toArray } }:Shared)=s3 at I3
 have hs3h:s3.heap=s2.heap.push { cls:=.type "list",dict:=none,data:=.seq ([]:List Value).toArray }:=by rw [← hs3]
 have fpD:∀ b∈fp,b≠D:=fun b hb=>by
  obtain ⟨o,e,_⟩:=T.obj 0 _ st2 b hb
  rw [← hD]; exact Nat.ne_of_lt (Heap.lt_size e)
 have old3:∀ b o,s2.heap.get? b=some o→s3.heap.get? b=some o:=fun b o e=>by rw [hs3h]; exact Heap.get?_push_of_some _ e
 refine wpAny_newFunctionEnv (around:=some X.env) hcell (by intro y hy; simp at hy) (fun h4 hns4 hsb4=>?_) hkind
 have hns4':h4.Ns s3.heap.objs.size (fun _=>none):=by
  have:(fun x=>(([]:List (Str×Value)).reverse.lookup x))=fun _=>(none:Option Value):=by funext x; rfl
  rw [this] at hns4
  exact hns4
 have old4:∀ b o,s3.heap.get? b=some o→h4.get? b=some o:=fun b o e=>by
  rw [hsb4.2 b (Nat.ne_of_lt (Heap.lt_size e))]; exact Heap.get?_push_of_some _ e
 have hσl:σ.length=N.length:=by rw [← hXN]; exact I.len
 have hρ2:σ.length=ρ2.length:=E2.len
 have hjσ:∀ j∈fi,j < σ.length:=fun j hj=>by rw [hσl]; exact hfl j hj
 have hjρ:∀ j∈fi,j < ρ2.length:=fun j hj=>by rw [← hρ2]; exact hjσ j hj
 have hfpl:∀ b∈fp,b < s3.heap.objs.size:=fun b hb=>by
  obtain ⟨o,e,_⟩:=T.obj 0 _ st2 b hb
  exact Heap.lt_size (old3 b o e)
 have hlNf:Nf.length=fi.length:=by have:=congrArg List.length hNf; simpa using this
 have Bok:(cxComp X scope (clOf X.env.cells scope.names []) (Nt++Nf) s3 (upd H2 D (.lst [])) fp).Ok:=by
  refine ⟨I3.ok.mod,hkind,I.ok.glob,I.ok.blt,Nat.le_refl _,fun x y c e1 e2=>I.ok.inj x y c (hsub x c e1) (hsub y c e2),fun x hx=>?_,fun x c hf _=>(Bool.false_ne_true hf).elim,I.ok.hd,I.ok.frames,.inl rfl,fun b hb=>⟨Nat.ne_of_lt (hfpl b hb),fun x c e=>(f2 b hb).2.2.2.2.1 x c (hsub x c e)⟩,I3.bs,Nat.le_trans I.ok.bsz I3.sz,fun b o e hb=>?_,fun b hb hm=>?_,I3.stack,I3.stkFree,I3.tbs⟩
  ·
   have hm:(x,NameKind.free)∈scope.names:=by
    rcases hx with hx | hx
    ·
     exact relabel_mem (env:=X.env) hcell (.inl rfl) hx
    ·
     exact relabel_mem (env:=X.env) hcell (.inr rfl) hx
   exact clOf_has scope.names [] x (.inr ⟨hm,hcells _ hm rfl⟩)
  ·
   rcases (f2 b hb).2.2.2.1 with z | z
   ·
    exact I.ok.noex b o e z
   ·
    exact absurd (Nat.lt_of_lt_of_le (Heap.lt_size (I.ok.bs b o e).1) z) (Nat.lt_irrefl _)
  ·
   rcases List.mem_cons.mp (I3.stkSub b hm) with z | z
   ·
    exact (f2 b hb).2.1 z
   ·
    exact (f2 b hb).2.2.1 z
 have I4:Inv (cxComp X scope (clOf X.env.cells scope.names []) (Nt++Nf) s3 (upd H2 D (.lst [])) fp) [] (List.replicate Nt.length none++capSt fi σ) (upd H2 D (.lst [])) { s3 with heap:=h4,toks:=s3.toks+([]:List (Str×Value)).length }:=by
  refine ⟨Bok,rfl,I3.bare,Un.kept old4,⟨_,hns4',fun i x v e1 e2 e3=>?_⟩,fun x c e=>?_,I3.fresh,fun x c e=>(I3.freeC x c (hsub x c e)).imp id fun z=>⟨rfl,z.2⟩,fun p hp=>absurd (show p∈([]:List (Addr×Obj)) from hp) (by simp),I3.hok.kept old4,?_⟩
  ·
   have e1:(Nt++Nf)[i]?=some x:=e1
   have hi':Nt.length≤i:=by
    by_cases q:i < Nt.length
    ·
     rw [List.getElem?_append_left (by simpa using q),List.getElem?_replicate] at e2
     split at e2 <;> cases e2
    ·
     omega
   rw [List.getElem?_append_right hi'] at e1
   rw [List.getElem?_append_right (by simpa using hi')] at e2
   simp only [List.length_replicate] at e2
   generalize i - Nt.length=k at e1 e2
   have hk:k < fi.length:=by
    have:=(List.getElem?_eq_some_iff.mp e1).1
    omega
   have e4:(Nf.map some)[k]?=(fi.map fun j=>N[j]?)[k]?:=by rw [hNf]
   rw [List.getElem?_map,List.getElem?_map,e1,List.getElem?_eq_getElem hk] at e4
   have e5:N[fi[k]]?=some x:=by simpa using e4.symm
   have e6:σ[fi[k]]?=some (some v):=by
    unfold capSt at e2
    rw [List.getElem?_map,List.getElem?_eq_getElem hk] at e2
    have hjl:=hjσ fi[k] (List.getElem_mem hk)
    rw [List.getElem?_eq_getElem hjl]
    simpa [List.getElem?_eq_getElem hjl] using e2
   have hxm:x∈Nf:=List.mem_of_getElem? e1
   have hfree:=hNk x hxm
   have hmem:(x,NameKind.free)∈scope.names:=PySem.mem_of_lookup hfree
   have hkx:=hfr _ hmem rfl
   obtain ⟨m,_,hl⟩:=I3.loc
   obtain ⟨u,ru,lk⟩:=hl fi[k] x v (by rw [hXN]; exact e5) e6 (by rw [hsc]; exact .inr hkx)
   refine ⟨u,ru,.inr ⟨lookup_relabel_free (env:=X.env) hfree,?_⟩⟩
   rcases lk with ⟨z,_⟩ | ⟨_,c,hc1,hc2⟩
   ·
    have z:X.env.scope.names.lookup x=some .local:=z
    rw [hsc] at z
    rcases hkx with q | q
    ·
     rw [z] at q; cases q
    ·
     rw [z] at q; cases q
   ·
    obtain ⟨d,hd⟩:=clOf_has (cells:=X.env.cells) scope.names [] x (.inr ⟨hmem,c,hc1⟩)
    have:d=c:=by have:=hsub x d hd; rw [hc1] at this; exact (Option.some.inj this).symm
    subst this
    obtain ⟨o,ho,hdd⟩:=hc2
    exact ⟨d,hd,o,old4 _ o ho,hdd⟩
  ·
   obtain ⟨v,o,ho,hd⟩:=I3.cell x c (hsub x c e)
   exact ⟨v,o,old4 c o ho,hd⟩
  ·
   show (List.replicate Nt.length none++capSt fi σ).length=(Nt++Nf).length
   simp [capSt,hlNf]
 have E4:REnv X.K Pr (upd H2 D (.lst [])) (some (.ref D)::(σ++(List.replicate Nt.length none++capSt fi σ))) (.own D []::(unsAt fi ρ2++(List.replicate Nt.length .un++capsOf fi ρ2))):=by
  have a1:REnv X.K Pr (upd H2 D (.lst [])) (σ++[some (.ref D)]) (ρ2++[.own D []]):=E3.rearr (by simp [hρ2]) [] (by
   rw [List.append_nil,List.zip_append hρ2]
   exact (List.perm_append_comm (l₁:=[(some (V.ref D),L.own D [])]) (l₂:=σ.zip ρ2)))
  have a2:=a1.takes fi hnd fun j hj=>by have:=hjρ j hj; simp; omega
  rw [capSt_app hjσ,capsOf_app hjρ,unsAt_app hjρ] at a2
  have a3:=a2.uns Nt.length
  have hcl:(capSt fi σ).length=(capsOf fi ρ2).length:=by simp [capSt,capsOf]
  have hul:σ.length=(unsAt fi ρ2).length:=by rw [unsAt_len]; exact hρ2
  refine a3.rearr (by simp [hul,hcl]) [] ?_
  have l1:(capSt fi σ++(σ++[some (V.ref D)])++List.replicate Nt.length none).zip (capsOf fi ρ2++(unsAt fi ρ2++[L.own D []])++List.replicate Nt.length L.un)=((capSt fi σ).zip (capsOf fi ρ2)++(σ.zip (unsAt fi ρ2)++[(some (V.ref D),L.own D [])]))++(List.replicate Nt.length none).zip (List.replicate Nt.length L.un):=by
   rw [List.zip_append (by simp only [List.length_append,hcl,hul]; rfl),List.zip_append hcl,List.zip_append hul]
   rfl
  have l2:(some (V.ref D)::(σ++(List.replicate Nt.length none++capSt fi σ))).zip (L.own D []::(unsAt fi ρ2++(List.replicate Nt.length L.un++capsOf fi ρ2)))=(some (V.ref D),L.own D [])::(σ.zip (unsAt fi ρ2)++((List.replicate Nt.length none).zip (List.replicate Nt.length L.un)++(capSt fi σ).zip (capsOf fi ρ2))):=by
   rw [List.zip_cons_cons,List.zip_append hul,List.zip_append (by simp)]
  rw [List.append_nil,l1,l2]
  generalize (capSt fi σ).zip (capsOf fi ρ2)=z1
  generalize σ.zip (unsAt fi ρ2)=z2
  generalize (List.replicate Nt.length none).zip (List.replicate Nt.length L.un)=z3
  show (z1++(z2++[(some (V.ref D),L.own D [])])++z3).Perm ((some (V.ref D),L.own D [])::(z2++(z3++z1)))
  have p1:(z1++(z2++[(some (V.ref D),L.own D [])])++z3).Perm ((z2++[(some (V.ref D),L.own D [])])++z3++z1):=by
   rw [List.append_assoc]
   exact List.perm_append_comm
  refine p1.trans ?_
  rw [List.append_assoc,List.append_assoc]
  exact List.perm_middle
 clear E3
 let B:Cx:=cxComp X scope (clOf X.env.cells scope.names []) (Nt++Nf) s3 (upd H2 D (.lst [])) fp
 have hul:σ.length=(unsAt fi ρ2).length:=by rw [unsAt_len]; exact hρ2
 have stat:∀ {H':Hp},(∀ b∈fp,H' b=none)→∀ b∈fp,FpOk B [] H' b:=fun hn b hb=>by
  refine ⟨hn b hb,Nat.ne_of_lt (hfpl b hb),fun hm=>?_,.inl hb,fun x c e=>(f2 b hb).2.2.2.2.1 x c (hsub x c e),fun p hp=>absurd (show p∈([]:List (Addr×Obj)) from hp) (by simp)⟩
  rcases List.mem_cons.mp (I3.stkSub b hm) with z | z
  ·
   exact (f2 b hb).2.1 z
  ·
   exact (f2 b hb).2.2.1 z
 have loop:∀ s5:Shared,s5={ s3 with heap:=h4,toks:=s3.toks+([]:List (Str×Value)).length }→codeAny (model X.prog X.w) X.A (.compLoop (.ListComp elt [⟨tg,iter,ifs,0⟩] scope pos) 0 (.ref it) (.ref D) B.env)
   (compPost (model X.prog X.w) X.A X.xe use Q (.ref D) s3.heap.objs.size) s5:=by
  rintro s5 rfl
  refine comp_loop (fun n s'=>∃ i σ' H' ρ' acc,n+i=xs.length∧Inv B [] σ' H' s'∧tn i s'.heap∧(∀ b∈fp,H' b=none)∧σ'.drop Nt.length=capSt fi σ∧REnv X.K Pr H' (some (.ref D)::(σ++σ')) (.own D acc::(unsAt fi ρ2++ρ'))∧acc.length≤i ∧
   compL g ti te (xs.drop i) ρ' acc fun ys ρb=>∀ a,post (.own a ys) (putAll fi (ρb.drop Nt.length) (unsAt fi ρ2))) ?_ xs.length
   ⟨0,_,_,_,[],by omega,I4,T.keep 0 _ _ st2 fun b hb o e=>old4 b o (old3 b o e),fun b hb=>by rw [upd_ne (fpD b hb)]; exact (f2 b hb).1,by simp,E4,Nat.le_refl _,by simpa using w0⟩
  rintro n s6 ⟨i,σ6,H6,ρ6,acc,hn,I6,st6,fr6,dr6,E6,hal,w6⟩
  have pr:Pres H2 H6:=fun b o p e=>by
   have ne:b≠D:=fun z=>by rw [z,fD] at e; cases e
   have e':B.H₀ b=some o:=by show upd H2 D (.lst []) b=some o; rw [upd_ne ne]; exact e
   cases o with
   | tup ys=>exact I6.base.tups b ys e'
   | frz ob u=>exact I6.base.frzs b ob u e'
   | tbl t=>exact I6.base.tbls b t e'
   | _=>exact p.elim
  obtain ⟨go,stop⟩:=G H6 pr
  have hτ:(some (V.ref D)::σ).length=(L.own D acc::unsAt fi ρ2).length:=by simp [hul]
  by_cases hlt:i < xs.length
  ·
   obtain ⟨hgo,hy⟩:=go i xs[i] (List.getElem?_eq_getElem hlt)
   rw [List.drop_eq_getElem_cons hlt] at w6
   refine thn (T.item B rfl rfl rfl hc i [] s6 σ6 H6 (fun _ _=>False) I6 (stat fr6) st6 hgo) fun r s7 ⟨u,hr,h7⟩=>?_
   subst hr
   refine thn h7 fun _ s8 ⟨x,H8,I8,r8,y8,st8,fr8⟩=>?_
   obtain ⟨gr,rx⟩:=hy x H8 y8
   have I8':=I8.pinned (stat fr8) (T.obj _ _ st8)
   have E8:=E6.grown gr
   have E8a:REnv X.K (butOwn H8 ρ6) H8 σ6 ρ6:=(REnv.drop (τ:=some (V.ref D)::σ) (lam:=L.own D acc::unsAt fi ρ2) E8 hτ).wide
   obtain ⟨gg,hgg,hgs⟩:=hg (clOf X.env.cells scope.names []) s3 (upd H2 D (.lst [])) fp
   refine thn (hgg _ s8 σ6 H8 x u _ I8' r8 (hgs x σ6 H8 _ ρ6 xs[i] _ I8.len E8a rx w6)) fun _ s9 ⟨σ9,H9,I9,e9,dr9,ρ9,E9,q9⟩=>?_
   subst e9
   have F9:REnv X.K Pr H9 (some (V.ref D)::(σ++σ9)) (L.own D acc::(unsAt fi ρ2++ρ9)):=REnv.step (τ:=some (V.ref D)::σ) (lam:=L.own D acc::unsAt fi ρ2) (w:=[]) (μ:=[]) E8 hτ E9 rfl
   have F9a:REnv X.K (butOwn H9 ρ9) H9 σ9 ρ9:=(REnv.drop (τ:=some (V.ref D)::σ) (lam:=L.own D acc::unsAt fi ρ2) F9 hτ).wide
   refine thn (hti _ _ _ _ _ s9 σ9 H9 _ ρ9 _ I9 F9a q9) fun ok sA ⟨HA,ρA,IA,EA,qA⟩=>?_
   have FA:REnv X.K Pr HA (some (V.ref D)::(σ++σ9)) (L.own D acc::(unsAt fi ρ2++ρA)):=REnv.step (τ:=some (V.ref D)::σ) (lam:=L.own D acc::unsAt fi ρ2) (w:=[]) (μ:=[]) F9 hτ EA rfl
   have again:∀ {sZ:Shared} {HZ:Hp} {ρZ:Ev} {acc':List L2.D},Inv B ([]++pinsAt fp s8.heap) σ9 HZ sZ→REnv X.K Pr HZ (some (.ref D)::(σ++σ9)) (.own D acc'::(unsAt fi ρ2++ρZ))→acc'.length≤i+1 →
     (compL g ti te (xs.drop (i+1)) ρZ acc' fun ys ρb=>∀ a,post (.own a ys) (putAll fi (ρb.drop Nt.length) (unsAt fi ρ2)))→∃ m,m < n∧∃ i σ' H' ρ' acc,m+i=xs.length∧Inv B [] σ' H' sZ∧tn i sZ.heap∧(∀ b∈fp,H' b=none)∧σ'.drop Nt.length=capSt fi σ ∧
     REnv X.K Pr H' (some (.ref D)::(σ++σ')) (.own D acc::(unsAt fi ρ2++ρ'))∧acc.length≤i∧compL g ti te (xs.drop i) ρ' acc fun ys ρb=>∀ a,post (.own a ys) (putAll fi (ρb.drop Nt.length) (unsAt fi ρ2)):=fun {sZ HZ ρZ acc'} IZ EZ hz qZ=>by
    refine ⟨n - 1,by omega,i+1,σ9,HZ,ρZ,acc',by omega,IZ.unpinned,T.keep _ _ _ st8 fun b hb o e=>(IZ.pin (b,o) (List.mem_append_right _ (List.mem_append_right _ (mem_pinsAt hb e)))).1,fun b hb=>?_,dr9.trans dr6,EZ,hz,qZ⟩
    obtain ⟨o,e,d⟩:=T.obj _ _ st8 b hb
    exact (IZ.pin (b,o) (List.mem_append_right _ (List.mem_append_right _ (mem_pinsAt hb e)))).2.1
   cases ok with
   | false =>
    rw [if_neg Bool.false_ne_true] at qA ⊢
    exact again IA FA (by omega) qA
   | true =>
    rw [if_pos rfl] at qA ⊢
    have FAa:REnv X.K (butOwn HA ρA) HA σ9 ρA:=(REnv.drop (τ:=some (V.ref D)::σ) (lam:=L.own D acc::unsAt fi ρ2) FA hτ).wide
    refine thn (hte _ _ _ _ _ sA σ9 HA _ ρA _ IA FAa qA) fun ux sB qB=>?_
    obtain ⟨vy,HB,y,ρB,IB,rB,EB,qB⟩:=EL.frz (X:=B) (post:=fun y ρ3=>compL g ti te (xs.drop (i+1)) ρ3 (acc++[y]) fun ys ρb=>∀ a,post (.own a ys) (putAll fi (ρb.drop Nt.length) (unsAt fi ρ2))) qB
    have FB:REnv X.K Pr HB (some vy::(some (V.ref D)::(σ++σ9))) (.d y::(L.own D acc::(unsAt fi ρ2++ρB))):=REnv.step (τ:=some (V.ref D)::σ) (lam:=L.own D acc::unsAt fi ρ2) (w:=[some vy]) (μ:=[.d y]) FA hτ EB rfl
    obtain ⟨_,e1,p1⟩:=FB.head_d
    cases e1
    have slB:=FB.tail.sl
    cases slB with
    | cons q0 _ =>
     obtain ⟨_,vs,hDB,rvs⟩:=q0
     refine thn (mt_append (X:=B) _ sB σ9 HB (.ref D) [vy] (.ref D) [ux] (fun z H'=>H'=upd HB D (.lst (vs++[vy]))) IB rfl (.cons rB .nil) ⟨D,vs,vy,rfl,rfl,hDB,by rw [rvs.length]; omega,rfl⟩) fun _ sC ⟨z,HC,IC,_,eC⟩=>?_
     subst eC
     exact again IC (FB.tail.write (rvs.append (.cons p1 .nil))) (by simp; omega) qB
  ·
   have e:i=xs.length:=by omega
   subst e
   refine thn (T.done B rfl rfl rfl hc xs.length [] s6 σ6 H6 (fun _ _=>False) I6 (stat fr6) st6 stop) fun r s7 ⟨hr,I7⟩=>?_
   subst hr
   rw [List.drop_length] at w6
   obtain ⟨m,hm,_⟩:=id I7.loc
   have I8:Inv X pins σ H6 s7:=I3.call' (ch:=fp) I7.os I7.base I7.hok I7.bare fun b hb=>⟨(f2 b hb).2.2.2.1,(f2 b hb).2.1,(f2 b hb).2.2.2.2.1,(f2 b hb).2.2.2.2.2⟩
   have f4:=I3.fpOk (H':=H6) (b:=s3.heap.objs.size) (Nat.le_refl _) I7.free
   ·
    have hlen6:σ6.length=ρ6.length:=(REnv.drop (τ:=some (V.ref D)::σ) (lam:=L.own D acc::unsAt fi ρ2) E6 hτ).len
    have a1:REnv X.K Pr H6 (capSt fi σ++(σ++[some (V.ref D)])) (ρ6.drop Nt.length++(unsAt fi ρ2++[L.own D acc])):=by
     have hcd:(capSt fi σ).length=(ρ6.drop Nt.length).length:=by rw [← dr6,List.length_drop,List.length_drop,hlen6]
     refine E6.rearr (by simp [hcd,hul,hlen6]) ((σ6.take Nt.length).zip (ρ6.take Nt.length)) ?_
     have l0:σ6.zip ρ6=(σ6.take Nt.length).zip (ρ6.take Nt.length)++(capSt fi σ).zip (ρ6.drop Nt.length):=by
      rw [← dr6,← List.zip_append (by simp [hlen6]),List.take_append_drop,List.take_append_drop]
     have l1:(some (V.ref D)::(σ++σ6)).zip (L.own D acc::(unsAt fi ρ2++ρ6))=(some (V.ref D),L.own D acc)::(σ.zip (unsAt fi ρ2)++σ6.zip ρ6):=by rw [List.zip_cons_cons,List.zip_append hul]
     have l2:(capSt fi σ++(σ++[some (V.ref D)])).zip (ρ6.drop Nt.length++(unsAt fi ρ2++[L.own D acc]))=(capSt fi σ).zip (ρ6.drop Nt.length)++(σ.zip (unsAt fi ρ2)++[(some (V.ref D),L.own D acc)]):=by
      rw [List.zip_append hcd,List.zip_append hul]; rfl
     rw [l1,l2,l0]
     generalize (capSt fi σ).zip (ρ6.drop Nt.length)=z1
     generalize σ.zip (unsAt fi ρ2)=z2
     generalize (σ6.take Nt.length).zip (ρ6.take Nt.length)=z3
     have p1:((some (V.ref D),L.own D acc)::(z2++(z3++z1))).Perm ((z2++[(some (V.ref D),L.own D acc)])++(z3++z1)):=by
      rw [List.append_assoc]
      exact List.perm_middle.symm
     refine p1.trans ?_
     have p2:((z2++[(some (V.ref D),L.own D acc)])++(z3++z1)).Perm ((z3++z1)++(z2++[(some (V.ref D),L.own D acc)])):=List.perm_append_comm
     refine p2.trans ?_
     rw [List.append_assoc]
     exact List.perm_append_comm
    have a2:=REnv.backs (σ:=σ++[some (V.ref D)]) (cs:=ρ6.drop Nt.length) (ρ:=unsAt fi ρ2++[L.own D acc]) fi hnd (by rw [List.length_drop,← hlen6,← List.length_drop,dr6]; simp [capSt]) (fun j hj=>by
     rw [List.getElem?_append_left (by rw [unsAt_len]; exact hjρ j hj)]; exact unsAt_un fi ρ2 j hj (hjρ j hj)) (fun j hj=>by have:=hjσ j hj; simp; omega) (by rw [capSt_app hjσ]; exact a1)
    rw [putAll_app fun j hj=>by rw [unsAt_len]; exact hjρ j hj] at a2
    have hpl:σ.length=(putAll fi (ρ6.drop Nt.length) (unsAt fi ρ2)).length:=by have:=a2.len; simpa using this
    refine hRR D s3.heap.objs.size s7 H6 acc (putAll fi (ρ6.drop Nt.length) (unsAt fi ρ2)) m I8 hm f4.1 f4.2.1 I3.sz f4.2.2.2.2.1 f4.2.2.2.2.2 (a2.rearr (by simp [hpl]) [] ?_) (w6 D)
    rw [List.append_nil,List.zip_append hpl,List.zip_cons_cons]
    exact List.perm_append_comm (l₂:=[(some (V.ref D),L.own D acc)])
 exact codeAny_compStart_list (loop _ rfl) (T.self _ 0 _ _ _ (T.keep 0 _ _ st2 fun b hb o e=>old4 b o (old3 b o e)) (loop _ rfl))
theorem pl_comp {elt tg iter:Expr} {ifs:List Expr} {scope sc:Scope} {pos:Pos} {N Nt Nf:List Str} {fi:List Nat} {src:W (List D)} {g:Tg} {ti:W Bool} {te:W L}
  (hsc:X.env.scope=sc) (hXN:X.N=N) (hc:X.calm=true) (hi:PIL X tg iter src)
  (hkind:scope.kind=.function) (hnames:∀ x∈scope.names,x.2=.local→scope.names.lookup x.1=some .local) (hcell:∀ y∈scope.names,y.2≠.cell)
  (hfr:∀ x∈scope.names,x.2=.free→sc.names.lookup x.1=some .cell∨sc.names.lookup x.1=some .free)
  (hnd:fi.Nodup) (hNf:Nf.map some=fi.map (fun j=>N[j]?)) (hNk:∀ x∈Nf,scope.names.lookup x=some .free) (hfl:∀ j∈fi,j < N.length)
  (hg:∀ cl s₀ H₀ fp,PTc (cxComp X scope cl (Nt++Nf) s₀ H₀ fp) tg Nt.length g) (hti:∀ cl s₀ H₀ fp,PIf (cxComp X scope cl (Nt++Nf) s₀ H₀ fp) ifs ti) (hte:∀ cl s₀ H₀ fp,PL (cxComp X scope cl (Nt++Nf) s₀ H₀ fp) elt te)
  (hs:∀ x,foldedSetIterable iter X.env x=pure x:=by intro _; rfl):PL X (.ListComp elt [⟨tg,iter,ifs,0⟩] scope pos) (wComp Nt.length fi src g ti te):=by
 intro pins s σ H Pr ρ post I E h
 rw [eval_ListComp]
 refine comp_core (use:=none) hsc hXN hc hi hkind hnames hcell hfr hnd hNf hNk hfl hg hti hte I E h (fun D C s7 H6 acc ρ'' m I7 hm h1 h2 h3 h4 h5 E7 p=>?_) hs
 exact ⟨m,hm,fun h' hsb=>⟨.ref D,H6,_,ρ'',I7.turned (t':=s7.toks) (fun b o hb e=>(hsb.2 b hb).trans e) h1 (Ne.symm (Ne.symm h2)) (.inr h3) h4 h5,rfl,E7,p⟩⟩
theorem pm_setC {elt tg iter:Expr} {ifs:List Expr} {scope sc:Scope} {pos spos py:Pos} {y:Str} {j:Nat} {N Nt Nf:List Str} {fi:List Nat} {src:W (List D)} {g:Tg} {ti:W Bool} {te:W L}
  (hN:X.N.Nodup) (hj:X.N[j]?=some y) (hy:Loc X.env.scope y)
  (hsc:X.env.scope=sc) (hXN:X.N=N) (hc:X.calm=true) (hi:PIL X tg iter src)
  (hkind:scope.kind=.function) (hnames:∀ x∈scope.names,x.2=.local→scope.names.lookup x.1=some .local) (hcell:∀ y∈scope.names,y.2≠.cell)
  (hfr:∀ x∈scope.names,x.2=.free→sc.names.lookup x.1=some .cell∨sc.names.lookup x.1=some .free)
  (hnd:fi.Nodup) (hNf:Nf.map some=fi.map (fun j=>N[j]?)) (hNk:∀ x∈Nf,scope.names.lookup x=some .free) (hfl:∀ j∈fi,j < N.length)
  (hg:∀ cl s₀ H₀ fp,PTc (cxComp X scope cl (Nt++Nf) s₀ H₀ fp) tg Nt.length g) (hti:∀ cl s₀ H₀ fp,PIf (cxComp X scope cl (Nt++Nf) s₀ H₀ fp) ifs ti) (hte:∀ cl s₀ H₀ fp,PL (cxComp X scope cl (Nt++Nf) s₀ H₀ fp) elt te)
  (hsw:swapsWith (.ListComp elt [⟨tg,iter,ifs,0⟩] scope pos) (some (.Name y py)) spos.line X.env=pure true:=by rfl) (hf:X.fn y=true∨X.env.scope.names.lookup y=some .local:=by first | exact .inl rfl | exact .inr rfl | assumption)
  (hs:∀ x,foldedSetIterable iter X.env x=pure x:=by intro _; rfl):PM X (.Assign [.Name y py] (.ListComp elt [⟨tg,iter,ifs,0⟩] scope pos) spos) (wSet j (wComp Nt.length fi src g ti te)):=by
 intro pins s σ H Pr ρ post I E h
 rw [exec_Assign_Name_used _ _ _ _ hsw]
 refine wpAny_bind (wpAny_standAt (wpAny_bind ?_))
 show wpAny _ X.A (do let _ ← comprehension (.ListComp elt [⟨tg,iter,ifs,0⟩] scope pos) scope X.env (firstIterPos [⟨tg,iter,ifs,0⟩] pos) (newList []) false (eval iter X.env) (some (assign (.Name y py) X.env))) _ _ s
 refine wpAny_bind (thn (comp_core (use:=some (assign (.Name y py) X.env)) (Q:=fun _ s'=>SM X pins Pr post .next s') (post:=fun r ρ1=>post .nx (ρ1.set j r)) hsc hXN hc hi hkind hnames hcell hfr hnd hNf hNk hfl hg hti hte I E h (fun D C s7 H6 acc ρ'' m I7 hm h1 h2 h3 h4 h5 E7 p=>?_) hs) fun _ s' hq=>wpAny_pure (wpAny_pure hq))
 show wpAny _ X.A (assign (.Name y py) X.env (.ref D)) _ _ _
 refine wpAny_assign_Name (store_ok2 (v:=.ref D) I7 hN hj hy rfl (fun s8 I8 ⟨a,sb,ha⟩=>?_) hf)
 have hCa:C≠a:=by
  rcases ha with z | z
  ·
   rw [z]; exact h2
  ·
   exact fun q=>h4 y a z q.symm
 refine ⟨m,hm.sameBut sb hCa,fun h' hsb=>⟨_,H6,_,I8.turned (t':=s8.toks) (fun b o hb e=>(hsb.2 b hb).trans e) h1 h2 (.inr h3) h4 h5,E7.store (by rw [I7.len]; exact (List.getElem?_eq_some_iff.mp hj).1),p⟩⟩
end
end L2
namespace L2
open PySem PySem.Spec PyProof.Rows
section
variable {X:Cx} {e a b c:Expr} {es rest:List Expr} {pos p p2 apos cpos:Pos} {ta tb tc te:W L} {x y:Str}
def wPar (i j:Nat) (ta tb:W L):W Fl:=fun ρ post=>ta ρ fun r ρ1=>toD r fun v=>tb ρ1 fun r2 ρ2=>toD r2 fun w=>post .nx ((ρ2.set i (.d v)).set j (.d w))
theorem pm_par {i j:Nat} {px py pt:Pos} {kt k2 pt2} (hc:X.calm=true) (hN:X.N.Nodup) (hi:X.N[i]?=some x) (hj:X.N[j]?=some y) (hij:i≠j)
  (hx:X.env.scope.names.lookup x=some .local) (hy:X.env.scope.names.lookup y=some .local) (ha:PL X a ta) (hb:PL X b tb)
  (hw:swappedStores [.Tuple [.Name x px,.Name y py] kt pt] (.Tuple [a,b] k2 pt2) X.env=pure (some [x,y]))
  (hs:swapsWithSole [.Tuple [.Name x px,.Name y py] kt pt] (.Tuple [a,b] k2 pt2) pos.line X.env=pure false:=by rfl)
  (h1:starEach [a,b] X.env=(false,eval a X.env)::starEach [b] X.env:=by rfl) (h2:starEach [b] X.env=[(false,eval b X.env)]:=by rfl) :
  PM X (.Assign [.Tuple [.Name x px,.Name y py] kt pt] (.Tuple [a,b] k2 pt2) pos) (wPar i j ta tb):=by
 refine PM.of (ps_par hc hN hi hj hij hx hy (pa_cons (pl_frz ha).pe (pa_cons (pl_frz hb).pe pa_nil h2) h1) hw hs) fun σ H Pr ρ post hlen E h=>?_
 refine ⟨Pr,ρ,fun r ρ1=>match r with
  | .d v=>tb ρ1 fun r2 ρ2=>toD r2 fun w=>post .nx ((ρ2.set i (.d v)).set j (.d w))
  | _=>False,E,h,fun v H1 r ρ1 E1 pp=>?_⟩
 cases r with
 | d dv =>
  refine ⟨butOwn H1 ρ1,ρ1,fun r ρ2=>match r with
   | .d w=>post .nx ((ρ2.set i (.d dv)).set j (.d w))
   | _=>False,E1.tail.wide,pp,fun w H2 r2 ρ2 E2 pp=>?_⟩
  cases r2 with
  | d dw =>
   have E3:REnv X.K Pr H2 (some w::some v::σ) (.d dw::.d dv::ρ2):=REnv.step (τ:=[some v]) (lam:=[.d dv]) (w:=[some w]) (μ:=[.d dw]) E1 rfl E2 rfl
   have il:i < σ.length:=by rw [hlen]; exact (List.getElem?_eq_some_iff.mp hi).1
   have jl:j < σ.length:=by rw [hlen]; exact (List.getElem?_eq_some_iff.mp hj).1
   obtain ⟨_,e1,r1⟩:=E3.head_d
   cases e1
   have E4:REnv X.K Pr H2 (σ.set i (some v)) (ρ2.set i (.d dv)):=E3.tail.store il
   exact ⟨v,w,rfl,_,(E4.cons_d r1).store (by simpa using jl),pp⟩
  | _=>exact pp.elim
 | _=>exact pp.elim
def wAsgT (is:List Nat) (te:W L):W Fl:=fun ρ post=>te ρ fun r ρ1=>toD r fun v=>tgTup is v ρ1 fun ρ2=>post .nx ρ2
theorem pm_asgT {tg:Expr} {is:List Nat} (hg:PT1 X tg (tgTup is)) (he:PL X e te) (hs:swapsWithSole [tg] e pos.line X.env=pure false:=by rfl) (hw:swappedStores [tg] e X.env=pure none:=by rfl)
  (h1:(assignEach [tg] X.env).map (·.2)=[assign tg X.env]:=by rfl):PM X (.Assign [tg] e pos) (wAsgT is te):=by
 intro pins s σ H Pr ρ post I E h
 obtain ⟨gg,hg,hgg⟩:=hg
 refine wpAny_Assign_stores (thn (he pins s σ H Pr ρ _ I E h) fun v s1 q=>?_) hs hw
 obtain ⟨w,H1,d,ρ1,I1,r1,E1,q1⟩:=EL.frz (post:=fun d ρ1=>tgTup is d ρ1 fun ρ2=>post .nx ρ2) q
 rw [h1]
 obtain ⟨_,e1,p1⟩:=E1.head_d
 cases e1
 exact thn (hg pins s1 σ H1 w v _ I1 r1 (hgg w σ H1 Pr ρ1 d _ I1.len E1.tail p1 q1)) fun _ s2 ⟨σ',H',I',e',_,ρ',E',q⟩=>by
  subst e'
  exact ⟨σ',_,ρ',I',E',q⟩
def eqF:D→D→Bool
 | .non,.non=>true
 | .bl a,.bl b=>a == b
 | .bl a,.int b=>(if a then 1 else 0) == b
 | .int a,.bl b=>a == (if b then 1 else 0)
 | .int a,.int b=>a == b
 | .str a,.str b=>a == b
 | _,_=>false
def inF (x:D) (ys:List D):Bool:=ys.any fun y=>eqF y x
def PO' (X:Cx) (lo:Option Expr) (t:Option (W L)):Prop:=match lo,t with
 | none,none=>True
 | some e,some t=>PL X e t
 | _,_=>False
theorem cutV_reps {K:PySem.W.Frag} {H:Hp} {vs:List V} {xs:List D} (r:Reps K H vs xs) (l u:Option Int):Reps K H (cutV vs l u) (cutD xs l u):=by
 unfold cutV cutD
 rw [r.length]
 exact (r.drop _).take _
def tPO (K:PySem.W.Frag) (t:Option (W L)):TO:=fun σ H Q=>∃ Pr ρ post,REnv K Pr H σ ρ∧wPart t ρ post∧∀ i H' ρ',REnv K Pr H' σ ρ'→post i ρ'→Q i H'
theorem po_of {lo:Option Expr} {t:Option (W L)} (h:PO' X lo t):PO X lo (tPO X.K t):=by
 cases lo with
 | none =>
  cases t with
  | none =>
   intro pins s σ H Q I ⟨Pr,ρ,post,E,hw,q⟩
   exact po_none pins s σ H Q I (q none H ρ E hw)
  | some t=>exact h.elim
 | some e =>
  cases t with
  | none=>exact h.elim
  | some t =>
   intro pins s σ H Q I ⟨Pr,ρ,post,E,hw,q⟩
   refine po_some (PL.pe (show PL X e t from h)) pins s σ H Q I ⟨Pr,ρ,_,E,hw,fun v H' r ρ' E' pp=>?_⟩
   obtain ⟨i,rfl,pp⟩:=toInt_is pp
   obtain ⟨_,e1,p1⟩:=E'.head_d
   cases e1
   cases p1
   exact ⟨i,rfl,q (some i) H' ρ' E'.tail pp⟩
end
end L2
namespace L2
open PySem PySem.Spec PyProof.Rows
section
variable {X:Cx} {e a b c:Expr} {es rest:List Expr} {pos p p2 p3 p4 apos cpos:Pos} {ta tb tc te:W L} {x y:Str} {k4:Nat}
end
def selW {α:Type} (o:Option L) (t u:W α) (ρ:Ev) (post:α→Ev→Prop):Prop:=match o with
 | some (.own _ _)=>t ρ post
 | _=>u ρ post
def wIsOwn {α:Type} (i:Nat) (t u:W α):W α:=fun ρ post=>selW ρ[i]? t u ρ post
theorem selW_own {α:Type} (a:Addr) (xs:List D) (t u:W α) (ρ:Ev) (post:α→Ev→Prop):selW (some (.own a xs)) t u ρ post=t ρ post:=(rfl)
theorem selW_d {α:Type} (x:D) (t u:W α) (ρ:Ev) (post:α→Ev→Prop):selW (some (.d x)) t u ρ post=u ρ post:=(rfl)
theorem selW_bx {α:Type} (a:Option Addr) (ls:List L) (t u:W α) (ρ:Ev) (post:α→Ev→Prop):selW (some (.bx a ls)) t u ρ post=u ρ post:=(rfl)
theorem pl_own {X:Cx} {e:Expr} {i:Nat} {t u:W L} (h:PL X e t) (h':PL X e u):PL X e (wIsOwn i t u):=fun pins s σ H Pr ρ post I E q=>by
 unfold wIsOwn selW at q
 split at q
 ·
  exact h pins s σ H Pr ρ post I E q
 ·
  exact h' pins s σ H Pr ρ post I E q
theorem kit_exc {K:PySem.W.Frag} {c:Str} {C:Addr} {T:String} (h:excStd K c C=true) (hm:PySem.W.kitMeta T=true):PySem.W.kitOne K (.ref C) (.type T)=some ((["ValueError","Exception","BaseException","object"]:List String).contains T):=by
 obtain ⟨L,cd,S⟩:=excStd_is h
 unfold PySem.W.kitOne PySem.W.kitCls
 rw [if_neg (show ¬ ((Value.ref C == Value.type T)=true) from fun z=>by cases z)]
 dsimp only
 rw [if_pos hm]
 show PySem.W.mroIn K C (.type T)=_
 rw [S.mroIn,xmro_type]
theorem kit_of {T:String} (h0:∀ K d,(∀ c ns xs,d≠.exc c ns xs)→PySem.W.kitOne K (tyD d) (.type T)=some (isTy T d)) (hm:PySem.W.kitMeta T=true):∀ K d t,TyD K d t→PySem.W.kitOne K t (.type T)=some (isTy T d):=by
 intro K d t h
 cases d with
 | exc c ns xs =>
  obtain ⟨C,e,h⟩:=h
  rw [e]
  exact kit_exc h hm
 | _=>cases h; exact h0 K _ (fun _ _ _ z=>nomatch z)
theorem kit_int:∀ K d t,TyD K d t→PySem.W.kitOne K t (.type "int")=some (isTy "int" d):=kit_of (fun K d hd=>by cases d <;> first | rfl | exact absurd rfl (hd _ _ _)) (by decide +kernel)
theorem kit_bool:∀ K d t,TyD K d t→PySem.W.kitOne K t (.type "bool")=some (isTy "bool" d):=kit_of (fun K d hd=>by cases d <;> first | rfl | exact absurd rfl (hd _ _ _)) (by decide +kernel)
theorem kit_str:∀ K d t,TyD K d t→PySem.W.kitOne K t (.type "str")=some (isTy "str" d):=kit_of (fun K d hd=>by cases d <;> first | rfl | exact absurd rfl (hd _ _ _)) (by decide +kernel)
theorem kit_list:∀ K d t,TyD K d t→PySem.W.kitOne K t (.type "list")=some (isTy "list" d):=kit_of (fun K d hd=>by cases d <;> first | rfl | exact absurd rfl (hd _ _ _)) (by decide +kernel)
theorem kit_tuple:∀ K d t,TyD K d t→PySem.W.kitOne K t (.type "tuple")=some (isTy "tuple" d):=kit_of (fun K d hd=>by cases d <;> first | rfl | exact absurd rfl (hd _ _ _)) (by decide +kernel)
end L2
namespace L2
open PySem PySem.Spec PyProof.Rows
def GlobT (K:PySem.W.Frag) (mg:Str→Option Value) (x:Str) (d:D):Prop:=∃ v u,mg x=some u∧RelV v u∧∀ H,Rep K H v d
theorem pl_G {X:Cx} {x:Str} {d:D} {pos:Pos} (g:GlobT X.K X.mg x d) (hg:Gl X x) (hdb:(x == ("__debug__" : Str))=false:=by decide):PL X (.Name x pos) (wC d):=by
 obtain ⟨v,u,h1,h2,h3⟩:=g
 exact pl_glob hg h1 h2 h3 hdb
theorem globI_mk {K:PySem.W.Frag} {mg:Str→Option Value} {x:Str} {s:Int} {t:Tok} (h1:mg x=some (.int s t)):GlobT K mg x (.int s):=⟨.int s,_,h1,⟨t,rfl⟩,fun H=>.int s⟩
theorem reps_ints {K:PySem.W.Frag} {H:Hp}:∀ ns:List Int,Reps K H (ns.map V.int) (ns.map D.int)
 | []=>.nil
 | n::ns=>.cons (.int n) (reps_ints ns)
theorem law_start {K:PySem.W.Frag} {H:Hp} {a:Addr} {ns:List Int} {fs:FS} {n:Nat} (hl:ns.length≤n) (hO:Only H) (hS:SqL K H a (ns.map V.int)) (h:fs [.d (.lst (ns.map .int))] (fun r _=>r=.d (.bl true))):spF K 1 fs [.ref a] H (fun v _=>v=.bl true) fun _ _ _=>False:=by
 have hz:SqZ K H a (ns.map V.int):=by
  rcases hS with (h | ⟨o,h⟩) | h
  ·
   rcases hO a with z | ⟨o,xs,z⟩ | ⟨q,z⟩
   ·
    rw [z] at h; cases h
   ·
    rw [z] at h; cases h
   ·
    rw [z] at h; cases h
  ·
   exact .inl ⟨o,h⟩
  ·
   exact .inr h
 refine ⟨rfl,fun _=>none,[.d (.lst (ns.map .int))],_,⟨(fun b o e=>nomatch e),(show ([]:List Addr).Nodup from List.nodup_nil),(fun a h=>absurd (show a∈([]:List Addr) from h) (by simp)),.cons ⟨.ref a,rfl,.lst hz (reps_ints ns)⟩ .nil⟩,h,fun v H' r ls' E p=>?_⟩
 subst p
 obtain ⟨_,e,r⟩:=E.head_d
 cases e
 cases r
 rfl
section
variable {X:Cx}
def opIsN:Op2:=fun x y k=>match y with
 | .non=>k (.d (.bl (match x with | .non=>true | _=>false)))
 | _=>False
theorem od_isN':OpD X (compareOp .Is) opIsN:=od_isN.imp fun x y k h=>by
 unfold opIsN at h
 split at h
 ·
  exact ⟨rfl,h⟩
 ·
  exact h.elim
end
end L2
namespace L2
open PySem
theorem gcd_fmod (a b:Int):Int.gcd b (a.fmod b)=Int.gcd a b:=by
 rw [Int.fmod_def,Int.gcd_sub_mul_left_right,Int.gcd_comm]
theorem natAbs_fmod_lt (a:Int) {b:Int} (h:b≠0):(a.fmod b).natAbs < b.natAbs:=by
 rw [Int.fmod_eq_emod]
 have h1:=Int.emod_nonneg a h
 have h2:a % b < (b.natAbs:Int):=Int.emod_lt a h
 split
 ·
  omega
 ·
  rename_i q
  have:a % b≠0:=fun e=>q (.inr (Int.dvd_of_emod_eq_zero e))
  omega
def frD (q:Rat):D:=.tup [.int q.num,.int (q.den:Int)]
theorem gcd_pos {t b:Int} (h:b≠0):0 < Int.gcd t b:=Int.gcd_pos_of_ne_zero_right _ h
def shareOf (t b:Int):Int:=if b < 0 then -(Int.gcd t b:Int) else (Int.gcd t b:Int)
theorem share_ne {t b:Int} (h:b≠0):shareOf t b≠0:=by
 have:=gcd_pos (t:=t) h
 unfold shareOf
 split <;> omega
theorem share_abs (t b:Int):(shareOf t b).natAbs=Int.gcd t b:=by
 unfold shareOf
 split <;> omega
theorem share_le {t b:Int} (h:b≠0):(shareOf t b).natAbs≤b.natAbs:=by
 rw [share_abs]
 exact Nat.le_of_dvd (by omega) (by have:=Int.gcd_dvd_right t b; exact Int.natAbs_dvd_natAbs.mpr this |> fun q=>by simpa using q)
theorem fdiv_neg_of {a g:Int} (hg:g≠0) (h:g∣a):a.fdiv (-g)=-(a / g):=by
 obtain ⟨k,rfl⟩:=h
 rw [Int.mul_ediv_cancel_left _ hg,show g*k=(-g)*(-k) by rw [Int.neg_mul_neg],Int.mul_fdiv_cancel_left _ (by omega)]
theorem low_num {t b:Int} (h:b≠0):t.fdiv (shareOf t b)=(Rat.divInt t b).num:=by
 have hg:=gcd_pos (t:=t) h
 have hd:(Int.gcd t b:Int)∣t:=Int.gcd_dvd_left t b
 rw [Rat.num_divInt,Int.gcd_comm b t]
 unfold shareOf
 split
 ·
  rename_i hb
  rw [fdiv_neg_of (by omega) hd,Int.sign_eq_neg_one_of_neg hb,Int.neg_one_mul,Int.neg_ediv_of_dvd hd]
 ·
  rename_i hb
  rw [Int.sign_eq_one_of_pos (by omega),Int.one_mul,Int.fdiv_eq_ediv_of_nonneg _ (by omega)]
theorem low_den {t b:Int} (h:b≠0):b.fdiv (shareOf t b)=((Rat.divInt t b).den:Int):=by
 have hg:=gcd_pos (t:=t) h
 have hd:(Int.gcd t b:Int)∣b:=Int.gcd_dvd_right t b
 rw [Rat.den_divInt,if_neg h,Int.gcd_comm b t,Int.natCast_ediv]
 unfold shareOf
 split
 ·
  rename_i hb
  rw [fdiv_neg_of (by omega) hd,← Int.neg_ediv_of_dvd hd]
  congr 1
  omega
 ·
  rename_i hb
  rw [Int.fdiv_eq_ediv_of_nonneg _ (by omega)]
  congr 1
  omega
theorem den_le {t b:Int} (h:b≠0):(Rat.divInt t b).den≤b.natAbs:=by
 rw [Rat.den_divInt,if_neg h]
 exact Nat.div_le_self _ _
theorem num_le {t b:Int} (h:b≠0):(Rat.divInt t b).num.natAbs≤t.natAbs:=by
 rw [← low_num h]
 exact PySem.natAbs_fdiv_le _ _
theorem den_pos (q:Rat):0 < q.den:=Nat.pos_of_ne_zero q.den_nz
theorem add_eq (p q:Rat):Rat.divInt (p.num*(q.den:Int)+q.num*(p.den:Int)) ((p.den:Int)*(q.den:Int))=p+q:=by
 have hp:=den_pos p
 have hq:=den_pos q
 have:=Rat.divInt_add_divInt p.num q.num (d₁:=(p.den:Int)) (d₂:=(q.den:Int)) (by omega) (by omega)
 rw [Rat.num_divInt_den,Rat.num_divInt_den] at this
 exact this.symm
def RB (n:Nat) (q:Rat):Prop:=q.num.natAbs < 2 ^ n∧q.den < 2 ^ n
theorem RB.mono {m n:Nat} {q:Rat} (h:RB m q) (hl:m≤n):RB n q:=⟨Nat.lt_of_lt_of_le h.1 (Nat.pow_le_pow_right (by decide) hl),Nat.lt_of_lt_of_le h.2 (Nat.pow_le_pow_right (by decide) hl)⟩
theorem RB.neg {n:Nat} {q:Rat} (h:RB n q):RB n (-q):=⟨by rw [Rat.neg_num,Int.natAbs_neg]; exact h.1,by rw [Rat.neg_den]; exact h.2⟩
theorem RB.bd {n:Nat} {q:Rat} (h:RB n q) (hl:n≤1000000):bitsOk (q.den:Int):=by
 unfold bitsOk
 rw [Int.natAbs_natCast]
 exact Nat.lt_of_lt_of_le h.2 (Nat.pow_le_pow_right (by decide) hl)
theorem mul_lt_pow {a b m n:Nat} (h1:a < 2 ^ m) (h2:b < 2 ^ n):a*b < 2 ^ (m+n):=by
 rw [Nat.pow_add]
 exact Nat.mul_lt_mul'' h1 h2
theorem RB.add {m n:Nat} {p q:Rat} (hp:RB m p) (hq:RB n q):RB (m+n+1) (p+q):=by
 have dp:=den_pos p
 have dq:=den_pos q
 have hne:((p.den:Int)*(q.den:Int))≠0:=Int.mul_ne_zero (by omega) (by omega)
 rw [← add_eq p q]
 have a1:=mul_lt_pow hp.1 hq.2
 have a2:=mul_lt_pow hq.1 hp.2
 have a3:=mul_lt_pow hp.2 hq.2
 have e:(2:Nat) ^ (m+n+1)=2 ^ (m+n)+2 ^ (m+n):=by rw [Nat.pow_succ]; omega
 rw [Nat.add_comm n m] at a2
 constructor
 ·
  refine Nat.lt_of_le_of_lt (num_le hne) ?_
  refine Nat.lt_of_le_of_lt (Int.natAbs_add_le _ _) ?_
  rw [Int.natAbs_mul,Int.natAbs_mul,Int.natAbs_natCast,Int.natAbs_natCast,e]
  omega
 ·
  refine Nat.lt_of_le_of_lt (den_le hne) ?_
  rw [Int.natAbs_mul,Int.natAbs_natCast,Int.natAbs_natCast,e]
  omega
end L2
namespace L2
open PySem
@[simp] theorem eqD_int (i j:Int):eqD (.int i) (.int j)=decide (i=j):=by
 simp [eqD,toP,PyData.eqv]
 by_cases h:i=j <;> simp [h]
@[simp] theorem eqD_str (i j:Str):eqD (.str i) (.str j)=decide (i=j):=by
 simp [eqD,toP,PyData.eqv]
 by_cases h:i=j <;> simp [h]
@[simp] theorem eqD_bl (i j:Bool):eqD (.bl i) (.bl j)=decide (i=j):=by
 simp [eqD,toP,PyData.eqv]
 cases i <;> cases j <;> rfl
@[simp] theorem shapeD_int (i:Int):shapeD (.int i):=rfl
@[simp] theorem shapeD_bl (i:Bool):shapeD (.bl i):=rfl
@[simp] theorem shapeD_non:shapeD .non:=rfl
mutual
def okD:Nat→D→Bool
 | _,.non=>true
 | _,.bl _=>true
 | _,.int _=>true
 | _,.str x=>PyData.strOk x
 | 0,.tup _=>false
 | 0,.lst _=>false
 | n+1,.tup xs=>okDs n xs
 | n+1,.lst xs=>okDs n xs
 | _,.dct _=>false
 | _,.exc _ _ _=>false
 | _,.fn _ _=>false
def okDs:Nat→List D→Bool
 | _,[]=>true
 | n,x::xs=>okD n x && okDs n xs
end
mutual
theorem okD_lay:∀ (n:Nat) (d:D),okD n d=true→(toP d).canLay0=true∧(toP d).depth≤n
 | _,.non,_=>⟨rfl,Nat.zero_le _⟩
 | _,.bl _,_=>⟨rfl,Nat.zero_le _⟩
 | _,.int _,_=>⟨rfl,Nat.zero_le _⟩
 | _,.str x,h=>⟨by simpa [okD,toP,PyData.canLay0] using h,Nat.zero_le _⟩
 | 0,.tup _,h=>by simp [okD] at h
 | 0,.lst _,h=>by simp [okD] at h
 | n+1,.tup xs,h=>by
  obtain ⟨h1,h2⟩:=okDs_lay n xs (by simpa [okD] using h)
  exact ⟨h1,Nat.succ_le_succ h2⟩
 | n+1,.lst xs,h=>by
  obtain ⟨h1,h2⟩:=okDs_lay n xs (by simpa [okD] using h)
  exact ⟨h1,Nat.succ_le_succ h2⟩
 | _,.dct _,h=>by simp [okD] at h
 | _,.exc _ _ _,h=>by simp [okD] at h
 | _,.fn _ _,h=>by simp [okD] at h
theorem okDs_lay:∀ (n:Nat) (ds:List D),okDs n ds=true→PyData.canLayAll0 (toPs ds)=true∧PyData.depthAll (toPs ds)≤n
 | _,[],_=>⟨rfl,Nat.zero_le _⟩
 | n,d::ds,h=>by
  have h':okD n d=true∧okDs n ds=true:=by simpa [okDs] using h
  obtain ⟨a1,a2⟩:=okD_lay n d h'.1
  obtain ⟨b1,b2⟩:=okDs_lay n ds h'.2
  exact ⟨by simp [toPs,PyData.canLayAll0,a1,b1],by simp only [toPs,PyData.depthAll]; omega⟩
end
theorem shape_ok {n:Nat} {d:D} (h:okD n d=true) (hn:n≤64):shapeD d:=by
 obtain ⟨h1,h2⟩:=okD_lay n d h
 unfold shapeD SeqAt.shaped
 rw [h1,decide_eq_true (by omega)]
 rfl
theorem eqD_tup (xs ys:List D):eqD (.tup xs) (.tup ys)=PyData.eqvAll (toPs xs) (toPs ys):=by simp [eqD,toP,PyData.eqv]
theorem eqDs_cons (x y:D) (xs ys:List D):PyData.eqvAll (toPs (x::xs)) (toPs (y::ys))=(eqD x y && PyData.eqvAll (toPs xs) (toPs ys)):=by simp [toPs,PyData.eqvAll,eqD]
theorem eqDs_nil:PyData.eqvAll (toPs []) (toPs [])=true:=by simp [toPs,PyData.eqvAll]
theorem eqD_refl {n:Nat} {d:D} (h:okD n d=true):eqD d d=true:=SeqAt.eqv_refl _ (okD_lay n d h).1
theorem shape_fr (q:Rat):shapeD (frD q):=shape_ok (n:=1) (by simp [frD,okD,okDs]) (by decide)
theorem eqD_fr (p q:Rat):eqD (frD p) (frD q)=decide (p=q):=by
 unfold frD
 rw [eqD_tup,eqDs_cons,eqDs_cons,eqDs_nil,eqD_int,eqD_int,Bool.and_true]
 by_cases h:p=q
 ·
  subst h; simp
 ·
  rw [decide_eq_false h]
  by_cases h1:p.num=q.num
  ·
   have:¬ ((p.den:Int)=(q.den:Int)):=fun e=>h (Rat.ext h1 (by omega))
   simp [this]
  ·
   simp [h1]
end L2
namespace L2
open PySem PySem.Spec PyProof.Rows
section
variable {X:Cx} {e a b c:Expr} {es rest:List Expr} {pos p p2 apos cpos:Pos} {ta tb tc te:W L} {x y:Str}
def wChain (o o':Op2) (ta tb tc:W L):W L:=fun ρ post=>ta ρ fun r ρ1=>toInt r fun i=>tb ρ1 fun r ρ2=>toInt r fun j=>o (.int i) (.int j) fun z=>isBl z fun k=>if k=true then tc ρ2 fun r ρ3=>toInt r fun l=>o' (.int j) (.int l) fun z=>post z ρ3 else post (.d (.bl false)) ρ2
def CmpI (X:Cx) (op:CmpOp) (o:Op2):Prop:=∃ f:Int→Int→Bool,OpR X (compareOp op) (rI0 fun i j=>.bl (f i j))∧∀ i j k,o (.int i) (.int j) k→k (.d (.bl (f i j)))
theorem ci_lt:CmpI X .Lt opLt:=⟨_,op_lt,fun _ _ _ h=>h⟩
theorem ci_le:CmpI X .LtE opLe:=⟨_,op_le,fun _ _ _ h=>h⟩
theorem chain_te {op op':CmpOp} {o o':Op2} {f f':Int→Int→Bool} (h1:∀ i j k,o (.int i) (.int j) k→k (.d (.bl (f i j)))) (h2:∀ i j k,o' (.int i) (.int j) k→k (.d (.bl (f' i j))))
  (σ:St) (H Pr:Hp) (ρ:Ev) (post:L→Ev→Prop) (Q:VK) (hQ:∀ v H' r ρ',REnv X.K Pr H' (some v::σ) (r::ρ')→post r ρ'→Q v H') (E:REnv X.K Pr H σ ρ) (h:wChain o o' ta tb tc ρ post) :
  tChain (rI0 fun i j=>.bl (f i j)) (rI0 fun i j=>.bl (f' i j)) (tL X.K ta) (tL X.K tb) (tL X.K tc) σ H Q:=by
 refine ⟨Pr,ρ,_,E,h,fun v H1 r ρ1 E1 p=>?_⟩
 obtain ⟨i,rfl,p⟩:=toInt_is p
 obtain ⟨_,e1,r1⟩:=E1.head_d
 cases e1
 cases r1
 refine ⟨Pr,ρ1,_,E1.tail,p,fun v H2 r ρ2 E2 p=>?_⟩
 obtain ⟨j,rfl,p⟩:=toInt_is p
 obtain ⟨_,e1,r1⟩:=E2.head_d
 cases e1
 cases r1
 refine ⟨i,j,rfl,rfl,f i j,rfl,?_⟩
 have q:=h1 i j _ p
 cases hk:f i j with
 | false =>
  rw [hk] at q
  exact hQ _ _ _ ρ2 (E2.tail.cons_d (.bl false)) q
 | true =>
  rw [hk] at q
  refine ⟨Pr,ρ2,_,E2.tail,q,fun v H3 r ρ3 E3 p=>?_⟩
  obtain ⟨l,rfl,p⟩:=toInt_is p
  obtain ⟨_,e1,r1⟩:=E3.head_d
  cases e1
  cases r1
  exact ⟨j,l,rfl,rfl,hQ _ _ _ ρ3 (E3.tail.cons_d (.bl _)) (h2 j l _ p)⟩
theorem pl_chain {op op':CmpOp} {o o':Op2} (ho:CmpI X op o) (ho':CmpI X op' o') (ha:PL X a ta) (hb:PL X b tb) (hc:PL X c tc) (hm:lastMarks [op,op'] [b,c]=false:=by with_unfolding_all rfl) :
  PL X (.Compare a [op,op'] [b,c] pos) (wChain o o' ta tb tc):=by
 obtain ⟨f,r1,h1⟩:=ho
 obtain ⟨f',r2,h2⟩:=ho'
 exact PL.of (pe_chain r1 r2 ha.pe hb.pe hc.pe hm) fun σ H Pr ρ post E h=>chain_te (op:=op) (op':=op') h1 h2 σ H Pr ρ post _ (fun v H' r ρ' E' p=>⟨r,ρ',E',p⟩) E h
theorem pb_chain {op op':CmpOp} {o o':Op2} (ho:CmpI X op o) (ho':CmpI X op' o') (ha:PL X a ta) (hb:PL X b tb) (hc:PL X c tc) (hm:lastMarks [op,op'] [b,c]=false:=by with_unfolding_all rfl) :
  PB X (.Compare a [op,op'] [b,c] pos) (wTest (wChain o o' ta tb tc)):=by
 obtain ⟨f,r1,h1⟩:=ho
 obtain ⟨f',r2,h2⟩:=ho'
 intro pins s σ H Pr ρ post I E h
 refine thn (pt_chain r1 r2 ha.pe hb.pe hc.pe hm pins s σ H (fun b H'=>∃ ρ',REnv X.K Pr H' σ ρ'∧post b ρ') I ?_) fun b s1 ⟨H1,I1,ρ1,E1,p1⟩=>⟨H1,ρ1,I1,E1,p1⟩
 refine chain_te (op:=op) (op':=op') h1 h2 σ H Pr ρ (fun r ρ1=>isBl r fun b=>post b ρ1) _ (fun v H' r ρ' E' p=>?_) E h
 obtain ⟨b,rfl,p⟩:=isBl_is p
 obtain ⟨_,e1,r1⟩:=E'.head_d
 cases e1
 cases r1
 exact ⟨b,rfl,ρ',E'.tail,p⟩
end
end L2
namespace L2
open PySem PySem.Spec PyProof.Rows PySem.Builtin.Str
section
variable {X:Cx} {e a b c:Expr} {es rest:List Expr} {pos p p2 apos cpos:Pos} {ta tb tc te:W L} {x y:Str}
theorem sl_str:SlR X (fun x lo hi H Q=>∃ z,x=.str z∧z.length≤sizeLine∧Q (.str (Txt.slice z lo hi)) H):=by
 intro pins s σ H x v vl vu lo hi sl Q I rx hs pl pu h
 obtain ⟨z,rfl,hz,q⟩:=h
 obtain ⟨t,rfl⟩:=rx
 refine ⟨"str",_,F.slot_str_getitem.lookup,typeIs_str _ _ _,?_⟩
 obtain ⟨l',rfl,rfl⟩:∃ l':Option (Int×Tok),vl=partValue l'∧lo=l'.map (·.1):=by
  cases pl
  ·
   exact ⟨none,rfl,rfl⟩
  ·
   exact ⟨some (_,_),rfl,rfl⟩
 obtain ⟨u',rfl,rfl⟩:∃ l':Option (Int×Tok),vu=partValue l'∧hi=l'.map (·.1):=by
  cases pu
  ·
   exact ⟨none,rfl,rfl⟩
  ·
   exact ⟨some (_,_),rfl,rfl⟩
 exact wpAny_getItem_str_slice (l:=l') (u:=u') (st:=none) hs rfl (post_val_or_str ⟨Nat.le_trans (Txt.slice_le z _ _) hz,fun t' k=>⟨.str _,H,I.tok k,⟨t',rfl⟩,q⟩⟩)
def wSl2 (ta:W L) (lo hi:Option (W L)):W L:=fun ρ post=>ta ρ fun r ρ1=>toD r fun d=>wPart lo ρ1 fun l ρ2=>wPart hi ρ2 fun u ρ3=>match d with
 | .lst xs=>∀ a,post (.own a (cutD xs l u)) ρ3
 | .str z=>z.length≤sizeLine∧post (.d (.str (Txt.slice z l u))) ρ3
 | .tup xs=>¬ (HT.sIx xs.length 0 l=0∧HT.sIx xs.length xs.length u=xs.length)∧post (.d (.tup (cutD xs l u))) ρ3
 | _=>False
theorem pl_slice2 {lo hi:Option Expr} {tl th:Option (W L)} (ha:PL X a ta) (hl:PO' X lo tl) (hh:PO' X hi th):PL X (.Subscript a (.Slice lo hi none p2) pos) (wSl2 ta tl th):=by
 refine PL.of (pe_slice (SlR.or sl_list (SlR.or sl_str sl_tup)) (pl_frz ha).pe (po_of hl) (po_of hh)) fun σ H Pr ρ post E h=>?_
 refine ⟨Pr,ρ,fun r ρ1=>match r with
  | .d d=>wPart tl ρ1 fun l ρ2=>wPart th ρ2 fun u ρ3=>match d with
   | .lst xs=>∀ a,post (.own a (cutD xs l u)) ρ3
   | .str z=>z.length≤sizeLine∧post (.d (.str (Txt.slice z l u))) ρ3
   | .tup xs=>¬ (HT.sIx xs.length 0 l=0∧HT.sIx xs.length xs.length u=xs.length)∧post (.d (.tup (cutD xs l u))) ρ3
   | _=>False
  | _=>False,E,h,fun v H1 r ρ1 E1 pp=>?_⟩
 cases r with
 | d d =>
  obtain ⟨_,e1,p1⟩:=E1.head_d
  cases e1
  refine ⟨butOwn H1 ρ1,ρ1,_,E1.tail.wide,pp,fun l H2 ρ2 E2 pp=>?_⟩
  have F2:REnv X.K Pr H2 (some v::σ) (.d d::ρ2):=REnv.step (τ:=[some v]) (lam:=[.d d]) (w:=[]) (μ:=[]) E1 rfl E2 rfl
  refine ⟨butOwn H2 ρ2,ρ2,_,F2.tail.wide,pp,fun u H3 ρ3 E3 pp=>?_⟩
  have F3:REnv X.K Pr H3 (some v::σ) (.d d::ρ3):=REnv.step (τ:=[some v]) (lam:=[.d d]) (w:=[]) (μ:=[]) F2 rfl E3 rfl
  obtain ⟨_,e1,p1⟩:=F3.head_d
  cases e1
  cases p1 with
  | lst hz rs=>exact .inl ⟨_,_,rfl,hz.l,fun q hq=>⟨_,_,F3.tail.cons_own hq (cutV_reps rs l u),pp q⟩⟩
  | str z=>exact .inr (.inl ⟨z,rfl,pp.1,_,_,F3.tail.cons_d (.str _),pp.2⟩)
  | tup hz rs=>exact .inr (.inr ⟨_,_,rfl,hz,by rw [rs.length]; exact pp.1,fun q hq=>⟨_,_,F3.tail.cons_tup hq (cutV_reps rs l u),pp.2⟩⟩)
  | _=>exact pp.elim
 | _=>exact pp.elim
def rJoin (K:PySem.W.Frag):V→List V→Hp→VK→Prop:=fun x vs H Q=>∃ z a ys zs,x=.str z∧vs=[.ref a]∧(SqL K H a ys∨SqT K H a ys)∧ys=zs.map V.str∧(zs.map (·.length)).sum+zs.length*z.length≤16777216∧Q (.str (Txt.join z zs)) H
theorem vals_strs:∀ {zs:List Str} {us:List Value},Vals (zs.map V.str) us→StrsAre us zs
 | [],_,.nil=>.nil
 | z::zs,_,.cons r t=>by
  obtain ⟨t',rfl⟩:=r
  exact .cons z t' (vals_strs t)
theorem mt_join:MtR X "str.join" (rJoin X.K):=by
 intro pins s σ H x vs v us Q I rx rv h
 obtain ⟨z,a,ys,zs,rfl,rfl,hq,rfl,hz,q⟩:=h
 obtain ⟨t,rfl⟩:=rx
 obtain ⟨u,rfl,ru⟩:=rv.one
 cases ru
 rcases hq with hq | hq
 ·
  obtain ⟨its,r,pl,_⟩:=I.list hq
  exact join_list pl.isList (by simpa using vals_strs r) hz fun t' k=>⟨.str _,H,I.tok k,⟨t',rfl⟩,q⟩
 ·
  obtain ⟨its,r,pl,_⟩:=I.tuple hq
  exact join_tuple pl (by simpa using vals_strs r) hz fun t' k=>⟨.str _,H,I.tok k,⟨t',rfl⟩,q⟩
end
end L2
namespace L2
open PySem PySem.Spec PyProof.Rows PySem.Builtin.Str
section
variable {X:Cx} {e a b c:Expr} {es rest:List Expr} {pos p p2 apos cpos:Pos} {ta tb tc te:W L} {x y:Str}
def wJoin (z:Str) (te:W L):W L:=fun ρ post=>te ρ fun r ρ1=>toD r fun d=>itemsOf d fun xs=>∃ zs,xs=zs.map D.str∧(zs.map (·.length)).sum+zs.length*z.length≤16777216∧post (.d (.str (Txt.join z zs))) ρ1
theorem reps_strs {K:PySem.W.Frag} {H:Hp}:∀ {zs:List Str} {vs:List V},Reps K H vs (zs.map D.str)→vs=zs.map V.str
 | [],_,.nil=>rfl
 | z::zs,_,.cons r t=>by
  cases r
  rw [reps_strs t]
  rfl
theorem pl_join {z:Str} {j:Nat} {pz:Pos} (he:PL X e te) (hs1:starEach [e] X.env=[(false,eval e X.env)]:=by rfl) (hbase:attributeBase (.Constant (.str z) j pz) "join" X.env (eval (.Constant (.str z) j pz) X.env)=eval (.Constant (.str z) j pz) X.env:=by rfl)
  (hfew:((backTo cpos (starEach [e] X.env)).all (fun x=>!x.1) && (backToKw cpos (keywordEach [] X.env)).all (fun x=>x.1.isSome)
   && decide (([e]).length+([]:List Keyword).length+(if ([]:List Keyword).isEmpty then 0 else 1) < 30))=true:=by rfl)
  (hline:(apos.endLine == cpos.line)=true:=by rfl) (hplain:(backTo cpos (starEach ([]:List Expr) X.env)).any (·.1)=false:=by rfl) :
  PL X (.Call (.Attribute (.Constant (.str z) j pz) "join" apos) [e] [] cpos) (wJoin z te):=by
 refine PL.of (pe_bm PySem.F.plainAttrs_str PySem.F.slot_str_join PySem.F.type_str_join mt_join pe_str (pa_cons (pl_frz he).pe pa_nil hs1) (hbase:=hbase) (hfew:=hfew) (hline:=hline) (hs:=hs1) (hplain:=hplain)) fun σ H Pr ρ post E h=>?_
 refine ⟨rfl,Pr,ρ,fun r ρ1=>match r with
  | .d d=>itemsOf d fun xs=>∃ zs,xs=zs.map D.str∧(zs.map (·.length)).sum+zs.length*z.length≤16777216∧post (.d (.str (Txt.join z zs))) ρ1
  | _=>False,E,h,fun v H' r ρ' E' pp=>?_⟩
 cases r with
 | d d =>
  obtain ⟨_,e1,p1⟩:=E'.head_d
  cases e1
  cases p1 with
  | lst hz rs =>
   obtain ⟨zs,rfl,hl,pp⟩:=pp
   exact ⟨z,_,_,zs,rfl,rfl,.inl hz.l,reps_strs rs,hl,_,_,E'.tail.cons_d (.str _),pp⟩
  | tup hz rs =>
   obtain ⟨zs,rfl,hl,pp⟩:=pp
   exact ⟨z,_,_,zs,rfl,rfl,.inr hz,reps_strs rs,hl,_,_,E'.tail.cons_d (.str _),pp⟩
  | _=>exact pp.elim
 | _=>exact pp.elim
theorem Inv.turnedL {pins:List (Addr×Obj)} {σ:St} {H:Hp} {s:Shared} {h':Heap} {t':Nat} {fp:List Addr} (I:Inv X pins σ H s) (k:∀ b o,b∉fp→s.heap.get? b=some o→h'.get? b=some o) (hf:∀ b∈fp,FpOk X pins H b):Inv X pins σ H { s with heap:=h',toks:=t' }:=by
 have nit:∀ b u,H b=some u→b∉fp:=fun b u e z=>by rw [(hf b z).1] at e; cases e
 refine I.step (g':=s.gens) (d':=s.drawn) (ch:=fp) (fun b hb=>?_) (fun b o _ _ hc e _=>k b o hc e) (fun b o _ _ hc e _=>⟨o.slots,k b o hc e⟩) (fun _ _ _ _ n=>n)
  (fun b o hc e=>⟨o,k b o hc e⟩) (fun _ _ e=>e) (fun _ _ _ e=>e) (fun _ _ e=>e) (fun m hm=>?_) (fun b u e=>?_) I.bare
 ·
  obtain ⟨f0,f1,f2,f3,f4,f5⟩:=hf b hb
  exact ⟨f3,f1,f4,f5⟩
 ·
  obtain ⟨o,es,ep,ho,r⟩:=hm
  exact ⟨o,es,ep,k _ o (fun z=>(hf _ z).2.1 rfl) ho,r⟩
 ·
  refine (I.hok b u e).stay (fun c v hc q=>k c v ?_ q) (fun _ q=>q) (fun _ _ q=>q) fun _ _ _ _ q=>q
  rcases hc with z | z
  ·
   rw [z]; exact nit b u e
  ·
   exact nit c _ z
def Ite (K:PySem.W.Frag) (a:Addr):It :=
 ⟨fun i H=>∃ xs x,SqL K H a xs∧xs[i]?=some x,fun i H v H'=>∃ p x,v=.ref p∧H p=none∧H'=upd H p (.tup [.int i,x])∧∀ xs,SqL K H a xs→xs[i]?=some x,fun i H=>∃ xs,SqL K H a xs∧xs.length≤i⟩
theorem turn_enum {P:Program} {w:World} {K:PySem.W.Frag} {k:Nat} (q it a:Addr) (hne:q≠it):Turn P w K (.Tuple es k pos) (Ite K a) [q,it] q (fun i h=>(∃ old,IsEnum h q it i old)∧h.IsListIter it a i) where
 mem:=by simp
 obj:=fun i h st b hb=>by
  obtain ⟨⟨old,he⟩,o,e,c,d⟩:=st
  rcases List.mem_cons.mp hb with rfl | hb
  ·
   exact ⟨_,he,fun v z=>by
    have z':Data.fields _=Data.cell v:=z
    cases z'⟩
  ·
   have e':b=it:=by simpa using hb
   subst e'
   exact ⟨o,e,fun v z=>by rw [d] at z; cases z⟩
 keep:=fun i h h' st kk=>⟨let ⟨old,he⟩:=st.1; ⟨old,kk q (by simp) _ he⟩,st.2.at fun o e=>kk it (by simp) o e⟩
 item:=by
  intro X hP hw hK hc i pins s σ H E I hf st hg
  subst hP hw hK
  obtain ⟨xs,x,hq,hx⟩:=hg
  obtain ⟨its,rv,p,hz⟩:=I.list hq
  obtain ⟨u,hu,ru⟩:=rv.get hx
  obtain ⟨⟨old,he⟩,hit⟩:=st
  have hai:a≠it:=fun z=>by
   subst z
   obtain ⟨o,e,c,d⟩:=hit
   obtain ⟨o',e',c',_⟩:=p.isList
   rw [e] at e'; cases e'
   rw [c] at c'; exact absurd c' (by simp)
  have hqa:q≠a:=fun z=>by
   subst z
   obtain ⟨o',e',c',_⟩:=p.isList
   rw [he] at e'; cases e'
   exact absurd c' (by simp)
  have D:=Draws.list (prog:=X.prog) (w:=X.w) (A:=X.A.in1) (I.ok.hd hc) it a hai its.toArray
  have hlt:i < its.toArray.size:=by
   rw [List.size_toArray]
   exact (List.getElem?_eq_some_iff.mp hu).1
  refine wpAny_pyNext_enum_itemD D he ⟨hit,p.isList⟩ hlt hne (by simp [hne,hqa]) fun x' h' tk hPx hout hst' htup hsz hk=>?_
  have hx':x'=u:=by
   have:its.toArray[i]?=some u:=by simpa using hu
   rw [this] at hPx; exact (Option.some.inj hPx).symm
  subst hx'
  refine ⟨.ref s.heap.objs.size,rfl,wpAny_letOwnedTupleGo_enum (s:={ s with heap:=h',toks:=tk+1 }) hout fun h'' he'' hs''=>?_⟩
  have qlt:q < s.heap.objs.size:=Heap.lt_size he
  have ilt:it < s.heap.objs.size:=by obtain ⟨o,e,_⟩:=hit; exact Heap.lt_size e
  have I1:Inv X pins σ (upd H s.heap.objs.size (.tup [.int i,x])) { s with heap:=s.heap.push { cls:=.type "tuple",data:=.seq #[.int i tk,x'] },toks:=tk } :=
   I.laid (fun b ob q=>Heap.get?_push_of_some _ q) (Nat.le_refl _) ⟨by show 2≤sizeLine; decide,[.int i tk,x'],.cons ⟨tk,rfl⟩ (.cons ru .nil),⟨_,Heap.get?_push_size _ rfl,rfl,_,rfl⟩⟩
  have hf1:∀ b∈[q,it],FpOk X pins (upd H s.heap.objs.size (.tup [.int i,x])) b:=fun b hb=>by
   refine ⟨?_,(hf b hb).2⟩
   rw [upd_ne ?_]
   ·
    exact (hf b hb).1
   ·
    rcases List.mem_cons.mp hb with rfl | hb
    ·
     exact Nat.ne_of_lt qlt
    ·
     rw [List.mem_singleton.mp hb]; exact Nat.ne_of_lt ilt
  have I2:=I1.turnedL (h':=h'') (t':=tk+1) (fp:=[q,it]) (fun b o hb e=>by
   have hbq:b≠q:=fun z=>hb (by simp [z])
   have hbi:b≠it:=fun z=>hb (by simp [z])
   refine (hs''.2 b hbq).trans ?_
   rcases Heap.get?_push_cases e with ⟨rfl,rfl⟩ | e
   ·
    exact htup
   ·
    exact hk b o hbq hbi e) hf1
  refine ⟨.ref s.heap.objs.size,_,I2,rfl,⟨_,x,rfl,I.fresh,rfl,fun ys hy=>by rw [I.list_inj hy hq]; exact hx⟩,⟨⟨_,by simpa using he''⟩,hst'.1.extBut hs''.extBut (Ne.symm hne)⟩,fun b hb=>(hf1 b hb).1⟩
 done:=by
  intro X hP hw hK hc i pins s σ H E I hf st hg
  subst hP hw hK
  obtain ⟨xs,hq,hx⟩:=hg
  obtain ⟨its,rv,p,hz⟩:=I.list hq
  obtain ⟨⟨old,he⟩,hit⟩:=st
  have hai:a≠it:=fun z=>by
   subst z
   obtain ⟨o,e,c,d⟩:=hit
   obtain ⟨o',e',c',_⟩:=p.isList
   rw [e] at e'; cases e'
   rw [c] at c'; exact absurd c' (by simp)
  have hl:=rv.length
  have hT:s.TypeIs (.ref q) "enumerate":=⟨_,he,rfl⟩
  unfold pyNext
  refine wpAny_bind (wpAny_attempt (wpAny_callSpecial?_slot (name:=Str.ofString "__next__") hT F.slot_enumerate_next
   (wpAny_call_entry F.slot_enumerate_next hT F.entry_enumerate_next ?_ (F.args_enumerate_next_1 _))))
  show wpAny _ _ (field (.ref q) 2 >>= _) _ _ _
  refine wpAny_bind (wpAny_field he rfl (x:=.ref it) rfl ?_)
  refine wpAny_bind (wpAny_nextOf_list_end (I.ok.hd hc) hit p.isList (by simp; omega) fun h' x he' hx'=>?_)
  obtain ⟨o,ho,hcc⟩:=hx'
  refine wpAny_bind (wpAny_isInstance (T:="StopIteration") (b:=true) ⟨o,ho,hcc⟩ isSubtype_stop ?_)
  refine wpAny_pure ⟨rfl,?_⟩
  exact I.turnedL (t':=s.toks) (fp:=[q,it]) (fun b o hb e=>he' b o (fun z=>hb (by simp [z])) e) hf
 self:=fun _ _ _ _ _ st h=>let ⟨_,he⟩:=st.1; wpAny_pyIter_enum he h
def enumD (xs:List D):List D:=xs.zipIdx.map fun p=>.tup [.int (p.2:Int),p.1]
theorem gives_enum {K:PySem.W.Frag} {H:Hp} {a:Addr} {vs:List V} {xs:List D} (h:SqZ K H a vs) (r:Reps K H vs xs):Gives K H (Ite K a) (enumD xs):=fun H' p=>by
 have h':=(h.pres p).l
 have hlen:(enumD xs).length=vs.length:=by rw [r.length]; simp [enumD]
 refine ⟨fun i x e=>?_,⟨vs,h',by rw [hlen]; exact Nat.le_refl _⟩⟩
 have hi:i < vs.length:=by rw [← hlen]; exact (List.getElem?_eq_some_iff.mp e).1
 have hi2:i < xs.length:=by rw [← r.length]; exact hi
 have ex:x=.tup [.int (i:Int),xs[i]]:=by
  have:(enumD xs)[i]?=some (.tup [.int (i:Int),xs[i]]):=by simp [enumD,hi2]
  rw [this] at e
  exact (Option.some.inj e).symm
 obtain ⟨v,ev,rv⟩:=r.get (i:=i) (List.getElem?_eq_getElem hi2)
 refine ⟨⟨vs,v,h',ev⟩,fun w H2 ⟨q,y,e1,e2,e3,e4⟩=>?_⟩
 have e5:=e4 vs h'
 rw [ev] at e5
 cases e5
 subst e1 e3 ex
 refine ⟨.inr ⟨_,_,e2,rfl⟩,.tup (.inl (.inl (upd_same ..))) (.cons (.int _) (.cons ((rv.pres p).new e2) .nil))⟩
def wEnum (t:W L):W (List D):=fun ρ post=>t ρ fun r ρ1=>toD r fun d=>match d with
 | .lst xs=>post (enumD xs) ρ1
 | _=>False
theorem pil_enum {k:Nat} {t:W L} (hg:Gl X "enumerate") (hm:X.mg "enumerate"=none) (ha:PL X a t) (hs:starEach [a] X.env=[(false,eval a X.env)]:=by rfl):PIL X (.Tuple es k apos) (.Call (.Name "enumerate" p) [a] [] pos) (wEnum t):=by
 intro pins s σ H Pr ρ post I E h
 refine Call_ (ld_blt I hg hm boot_enumerate (PyProof.Rows.callWith_type1 (thn (pal_val (pl_frz ha) pal_nil hs pos pins s σ H Pr ρ (fun ls ρ1=>match ls with
  | [.d (.lst xs)]=>post (enumD xs) ρ1
  | _=>False) I E ?_) fun us s1 ⟨vs,H1,ls,ρ1,I1,r1,hl,hb,E1,_,q1⟩=>?_) hs rfl))
 ·
  show t ρ _
  have e:(fun r ρ1=>toD r fun d=>match d with | .lst xs=>post (enumD xs) ρ1 | _=>False)=(fun r ρ1=>toD r fun x=>aNil ρ1 fun xs ρ2=>match L.d x::xs with | [.d (.lst xs)]=>post (enumD xs) ρ2 | _=>False):=by
   funext r ρ1
   cases r with
   | un=>rfl
   | d d=>cases d <;> rfl
   | own=>rfl
   | bx b ls =>
    show isSome' (eraseL (.bx b ls)) _=isSome' (eraseL (.bx b ls)) _
    cases eraseL (.bx b ls) with
    | none=>rfl
    | some d=>cases d <;> rfl
   | dic b ls=>rfl
  rw [← e]
  exact h
 ·
  dsimp only at q1
  split at q1
  ·
   rename_i xs
   cases vs with
   | nil=>exact absurd hl (by simp)
   | cons v vs =>
    have:vs=[]:=by
     have:vs.length=0:=by simpa using hl
     exact List.length_eq_zero_iff.mp this
    subst this
    obtain ⟨_,e1,p1⟩:=REnv.head_d (σ:=σ) (ρ:=ρ1) E1
    cases e1
    cases p1 with
    | lst hz rs =>
     obtain ⟨u,rfl,ru⟩:=r1.one
     cases ru
     obtain ⟨its,rv,pl,hz'⟩:=I1.list hz.l
     refine call_enumerate_list pl.isList fun h' hE hI hsz hk=>?_
     refine wpAny_pyIter_enum (s:={ s1 with heap:=h' }) hE ?_
     have E2:REnv X.K Pr H1 σ ρ1:=REnv.tail (σ:=σ) (ρ:=ρ1) E1
     refine ⟨s1.heap.objs.size+1,[s1.heap.objs.size+1,s1.heap.objs.size],_,_,H1,_,ρ1,rfl,I1.kept (t':=s1.toks) hk,turn_enum _ _ _ (Nat.succ_ne_self _),⟨⟨_,hE⟩,hI⟩,fun b hb=>?_,E2,gives_enum hz rs,q1⟩
     have hb':s1.heap.objs.size≤b:=by
      rcases List.mem_cons.mp hb with rfl | hb
      ·
       exact Nat.le_succ _
      ·
       rw [List.mem_singleton.mp hb]; exact Nat.le_refl _
     exact I1.fpOk hb' (I1.hok.fresh hb')
  ·
   exact q1.elim
end
end L2
namespace L2
open PySem PySem.Spec PyProof.Rows PySem.Builtin.Str
section
variable {X:Cx} {e a b c:Expr} {es rest:List Expr} {pos p p2 apos cpos:Pos} {ta tb tc te:W L} {x y:Str}
end
end L2
namespace L2
open PySem PySem.Spec PyProof.Rows PySem.Builtin.Str
section
variable {X:Cx} {e a b c:Expr} {es rest:List Expr} {pos p p2 apos cpos:Pos} {ta tb tc te:W L} {x y:Str}
def PTcs (X:Cx) (es:List Expr) (n:Nat) (is:List Nat):Prop:=∃ gg:TGs,PGs X es gg∧es.length=is.length∧∀ vs σ H Pr ρ xs k,σ.length=X.N.length→REnv X.K Pr H σ ρ→Reps X.K H vs xs→tgNames is xs ρ k→gg vs σ H fun σ' H'=>H'=H∧σ'.drop n=σ.drop n∧∃ ρ',REnv X.K Pr H σ' ρ'∧k ρ'
theorem tcs_nil {n:Nat}:PTcs X [] n []:=⟨_,pgs_nil,rfl,fun vs σ H Pr ρ xs k hl E r h=>by
 cases r with
 | nil=>exact ⟨rfl,rfl,rfl,ρ,E,h⟩
 | cons _ _=>exact h.elim⟩
theorem tcs_cons {i n:Nat} {is:List Nat} {x:Str} (hn:i < n) (hN:X.N.Nodup) (hi:X.N[i]?=some x) (hx:Loc X.env.scope x) (hr:PTcs X es n is) (hf:X.fn x=true∨X.env.scope.names.lookup x=some .local:=by first | exact .inl rfl | exact .inr rfl | assumption)
  (hs:(assignEach (.Name x pos::es) X.env).map (·.2)=assign (.Name x pos) X.env::(assignEach es X.env).map (·.2):=by rfl):PTcs X (.Name x pos::es) n (i::is):=by
 obtain ⟨gg,hg,hlen,q⟩:=hr
 refine ⟨_,pgs_cons (pg_name hN hi hx hf) hg hs,by simp [hlen],fun vs σ H Pr ρ xs k hl E r h=>?_⟩
 cases r with
 | nil=>exact h.elim
 | cons r0 t =>
  refine ⟨_,_,rfl,?_⟩
  have:=q _ (σ.set i (some _)) H Pr _ _ k (by simpa using hl) ((E.cons_d r0).store (by rw [hl]; exact (List.getElem?_eq_some_iff.mp hi).1)) t h
  rw [List.drop_set_of_lt hn] at this
  exact this
theorem tc_tup {is:List Nat} {k n:Nat} (hc:X.calm=true) (h:PTcs X es n is) (hn:(assignEach es X.env).length=is.length:=by rfl) (hst:(assignEach es X.env).findIdx? (·.1)=none:=by rfl):PTc X (.Tuple es k pos) n (tgTup is):=by
 obtain ⟨gg,hg,hlen,q⟩:=h
 refine ⟨_,pg_tup hc hg hn hst,fun v σ H Pr ρ x k hl E r h=>?_⟩
 cases r with
 | tup hs rs=>exact ⟨_,_,rfl,hs,by rw [rs.length]; exact tgNames_len h,q _ σ H Pr ρ _ k hl E rs h⟩
 | _=>exact h.elim
theorem Reps.dropLast {K:PySem.W.Frag} {H:Hp}:∀ {vs:List V} {ds:List D},Reps K H vs ds→Reps K H vs.dropLast ds.dropLast
 | _,_,.nil=>.nil
 | _,_,.cons r .nil=>.nil
 | _,_,.cons r (.cons q t)=>.cons r (Reps.dropLast (.cons q t))
end
end L2
namespace L2
open PySem PySem.Spec PyProof.Rows
mutual
def noL:D→Bool
 | .lst _=>false
 | .dct _=>false
 | .exc _ _ _=>false
 | .fn _ _=>false
 | .tup xs=>noLs xs
 | _=>true
def noLs:List D→Bool
 | []=>true
 | x::xs=>noL x && noLs xs
end
mutual
def noLr:L→Bool
 | .un=>true
 | .d x=>noL x
 | .own _ xs=>noLs xs
 | .bx _ ls=>noLrs ls
 | .dic _ kvs=>kvs.all fun p=>noL p.2
def noLrs:List L→Bool
 | []=>true
 | l::ls=>noLr l && noLrs ls
end
theorem noLr_un:noLr .un=true:=by simp [noLr]
theorem noLr_d (x:D):noLr (.d x)=noL x:=by simp [noLr]
theorem noLr_own (a:Addr) (xs:List D):noLr (.own a xs)=noLs xs:=by simp [noLr]
theorem noLr_bx (a:Option Addr) (ls:List L):noLr (.bx a ls)=noLrs ls:=by simp [noLr]
theorem noLr_dic (a:Addr) (kvs:List (Key×D)):noLr (.dic a kvs)=kvs.all fun p=>noL p.2:=by simp [noLr]
theorem noLrs_nil:noLrs []=true:=by simp [noLrs]
theorem noLrs_cons (l:L) (ls:List L):noLrs (l::ls)=(noLr l && noLrs ls):=by simp [noLrs]
section
variable {X:Cx} {pins:List (Addr×Obj)} {σ:St} {H:Hp} {s:Shared}
end
def Thawed (H' H2:Hp) (S:List Addr):Prop:=(∀ b,b∉S→H2 b=H' b)∧(∀ a∈S,∃ o vs,H' a=some (.frz o (.lst vs))∧H2 a=some (.lst vs))
section
variable {K:PySem.W.Frag} {H' H2:Hp} {S:List Addr}
theorem Thawed.lst (T:Thawed H' H2 S) {a:Addr} {vs:List V} (h:H' a=some (.lst vs)):a∉S∧H2 a=some (.lst vs):=by
 have n:a∉S:=fun z=>by
  obtain ⟨o,us,e,_⟩:=T.2 a z
  rw [h] at e; cases e
 exact ⟨n,(T.1 a n).trans h⟩
theorem Thawed.tup (T:Thawed H' H2 S) {a:Addr} {vs:List V} (h:SqT K H' a vs):SqT K H2 a vs:=by
 rcases h with (e | ⟨u,e⟩) | e
 ·
  exact .inl (.inl (by rw [T.1 _ fun z=>by obtain ⟨o,vs,e1,_⟩:=T.2 _ z; rw [e1] at e; cases e]; exact e))
 ·
  exact .inl (.inr ⟨u,by rw [T.1 _ fun z=>by obtain ⟨o,vs,e1,_⟩:=T.2 _ z; rw [e1] at e; cases e]; exact e⟩)
 ·
  exact .inr e
end
def flatL:L→Bool
 | .d _=>true
 | l=>noLr l
theorem flatL_un:flatL .un=true:=by simp [flatL,noLr]
theorem flatL_d (x:D):flatL (.d x)=true:=rfl
theorem flatL_own (a:Addr) (xs:List D):flatL (.own a xs)=noLs xs:=by simp [flatL,noLr]
theorem flatL_dic (a:Addr) (kvs:List (Key×D)):flatL (.dic a kvs)=kvs.all fun p=>noL p.2:=by simp [flatL,noLr]
theorem flatL_bx (a:Option Addr) (ls:List L):flatL (.bx a ls)=noLrs ls:=by simp [flatL,noLr]
def flatOwn (i:Nat) (ρ:Ev):Bool:=(ρ.set i .un).all flatL
def pkW (o:Option L) (i:Nat) (t:W L) (ρ:Ev) (post:L→Ev→Prop):Prop:=match o with
 | some (.own _ xs)=>flatOwn i ρ=true∧t (ρ.set i (.d (.lst xs))) fun r ρ'=>noLr r=true∧ρ'=ρ.set i (.d (.lst xs))∧post r ρ
 | some (.bx b ls)=>flatOwn i ρ=true∧toDB b ls fun x=>t (ρ.set i (.d x)) fun r ρ'=>noLr r=true∧ρ'=ρ.set i (.d x)∧post r ρ
 | _=>t ρ post
theorem pkW_own (a:Addr) (xs:List D) (i:Nat) (t:W L) (ρ:Ev) (post:L→Ev→Prop):pkW (some (.own a xs)) i t ρ post=(flatOwn i ρ=true∧t (ρ.set i (.d (.lst xs))) fun r ρ'=>noLr r=true∧ρ'=ρ.set i (.d (.lst xs))∧post r ρ):=(rfl)
theorem pkW_bx (b:Option Addr) (ls:List L) (i:Nat) (t:W L) (ρ:Ev) (post:L→Ev→Prop):pkW (some (.bx b ls)) i t ρ post=(flatOwn i ρ=true∧toDB b ls fun x=>t (ρ.set i (.d x)) fun r ρ'=>noLr r=true∧ρ'=ρ.set i (.d x)∧post r ρ):=(rfl)
theorem pkW_d (x:D) (i:Nat) (t:W L) (ρ:Ev) (post:L→Ev→Prop):pkW (some (.d x)) i t ρ post=t ρ post:=(rfl)
def pkB (o:Option L) (i:Nat) (t:W Bool) (ρ:Ev) (post:Bool→Ev→Prop):Prop:=match o with
 | some (.own _ xs)=>flatOwn i ρ=true∧t (ρ.set i (.d (.lst xs))) fun r ρ'=>ρ'=ρ.set i (.d (.lst xs))∧post r ρ
 | some (.bx b ls)=>flatOwn i ρ=true∧toDB b ls fun x=>t (ρ.set i (.d x)) fun r ρ'=>ρ'=ρ.set i (.d x)∧post r ρ
 | _=>t ρ post
theorem pkB_own (a:Addr) (xs:List D) (i:Nat) (t:W Bool) (ρ:Ev) (post:Bool→Ev→Prop):pkB (some (.own a xs)) i t ρ post=(flatOwn i ρ=true∧t (ρ.set i (.d (.lst xs))) fun r ρ'=>ρ'=ρ.set i (.d (.lst xs))∧post r ρ):=(rfl)
theorem pkB_bx (b:Option Addr) (ls:List L) (i:Nat) (t:W Bool) (ρ:Ev) (post:Bool→Ev→Prop):pkB (some (.bx b ls)) i t ρ post=(flatOwn i ρ=true∧toDB b ls fun x=>t (ρ.set i (.d x)) fun r ρ'=>ρ'=ρ.set i (.d x)∧post r ρ):=(rfl)
theorem pkB_d (x:D) (i:Nat) (t:W Bool) (ρ:Ev) (post:Bool→Ev→Prop):pkB (some (.d x)) i t ρ post=t ρ post:=(rfl)
end L2
namespace L2
open PySem PySem.Spec PyProof.Rows
variable {X:Cx}
end L2
namespace L2
open PySem PySem.Spec PyProof.Rows
variable {X:Cx}
end L2
namespace L2
open PySem PySem.Spec PyProof.Rows
variable {X:Cx}
end L2
namespace L2
open PySem PySem.Spec PyProof.Rows
section
variable {X:Cx} {e a b c:Expr} {es rest:List Expr} {pos p p2 apos cpos:Pos} {ta tb tc te:W L} {x y:Str}
def wLinks:List (Op2×W L)→D→W L
 | [],_=>fun _ _=>False
 | [(o,t)],dx=>fun ρ post=>t ρ fun y ρ1=>toD y fun dy=>o dx dy fun r=>isBl r fun k=>post (.d (.bl k)) ρ1
 | (o,t)::q::r,dx=>fun ρ post=>t ρ fun y ρ1=>toD y fun dy=>o dx dy fun z=>isBl z fun k=>if k=true then wLinks (q::r) dy ρ1 post else post (.d (.bl false)) ρ1
def wChainN (ta:W L) (ls:List (Op2×W L)):W L:=fun ρ post=>ta ρ fun x ρ1=>toD x fun dx=>wLinks ls dx ρ1 post
inductive Links (X:Cx):List CmpOp→List Expr→List (Op2×W L)→Prop where
 | one {op:CmpOp} {e:Expr} {o:Op2} {t:W L} (ho:OpD X (compareOp op) o) (h:PL X e t):Links X [op] [e] [(o,t)]
 | cons {op:CmpOp} {e:Expr} {o:Op2} {t:W L} {ops:List CmpOp} {es:List Expr} {ls:List (Op2×W L)} (ho:OpD X (compareOp op) o) (h:PL X e t) (r:Links X ops es ls):Links X (op::ops) (e::es) ((o,t)::ls)
theorem op_link {op:CmpOp} {o:Op2} {pins:List (Addr×Obj)} {s:Shared} {σ:St} {H Pr:Hp} {ρ:Ev} {v:V} {u:Value} {dx:D} {R:Bool→D→Ev→Prop} {t:W L} {Q:Value→Value→Shared→Prop} (ho:OpD X (compareOp op) o) (h:PL X e t)
  (I:Inv X pins σ H s) (rv:RelV v u) (E:REnv X.K Pr H (some v::σ) (.d dx::ρ)) (ht:t ρ fun y ρ1=>toD y fun dy=>o dx dy fun r=>isBl r fun k=>R k dy ρ1)
  (hQ:∀ u2 s3 w2 dy H3 ρ1 k,Inv X pins σ H3 s3→RelV w2 u2→REnv X.K Pr H3 (some w2::σ) (.d dy::ρ1)→R k dy ρ1→Q u2 (.bool k) s3) :
  wpAny (model X.prog X.w) X.A (eval e X.env) (fun b s₁=>wpAny (model X.prog X.w) X.A (compareOp op u b) (fun c s₂=>Q b c s₂) X.xe s₁) X.xe s:=by
 refine thn (h pins s σ H _ ρ _ I E.tail.wide ht) fun u2 s2 q=>?_
 obtain ⟨y,H2,dy,ρ2,I2,r2,E2,q2⟩:=EL.frz (post:=fun dy ρ1=>o dx dy fun r=>isBl r fun k=>R k dy ρ1) q
 have E3:REnv X.K Pr H2 (some y::some v::σ) (.d dy::.d dx::ρ2):=REnv.step (τ:=[some v]) (lam:=[.d dx]) (w:=[some y]) (μ:=[.d dy]) E rfl E2 rfl
 obtain ⟨_,e1,p1⟩:=E3.head_d
 obtain ⟨_,e2,p2⟩:=E3.tail.head_d
 cases e1
 cases e2
 have E4:REnv X.K Pr H2 σ ρ2:=E3.tail.tail
 have E5:REnv X.K Pr H2 (some y::σ) (.d dy::ρ2):=E4.cons_d p1
 have E5w:=E5
 refine thn (ho pins s2 σ H2 (butOwn H2 ρ2) ρ2 v y u u2 dx dy _ I2 rv r2 E4.wide p2 p1 q2) fun w s3 ⟨z,H3,r,I3,rz,E6,pp⟩=>?_
 obtain ⟨k,rfl,pp⟩:=isBl_is pp
 obtain ⟨_,e3,p3⟩:=E6.head_d
 cases e3
 cases p3
 cases rz
 have P3:Pres H2 H3:=pres_of E4 E6.sub
 have E7:REnv X.K Pr H3 σ ρ2:=E4.narrow E6.tail
 exact hQ u2 s3 y dy H3 ρ2 k I3 r2 (E7.cons_d (p1.pres P3)) pp
theorem links_pl {ops:List CmpOp} {es:List Expr} {ls:List (Op2×W L)} (h:Links X ops es ls):∀ (pins:List (Addr×Obj)) (s:Shared) (σ:St) (H Pr:Hp) (ρ:Ev) (post:L→Ev→Prop) (v:V) (u:Value) (dx:D) (pos:Pos),Inv X pins σ H s→RelV v u→REnv X.K Pr H (some v::σ) (.d dx::ρ)→wLinks ls dx ρ post →
  wpAny (model X.prog X.w) X.A (compareChain pos u ops (evalEach es X.env)) (EL X pins σ Pr post) X.xe s:=by
 induction h with
 | one ho h =>
  intro pins s σ H Pr ρ post v u dx pos I rv E hl
  refine chain_last ?_
  exact op_link (R:=fun k _ ρ1=>post (.d (.bl k)) ρ1) (Q:=fun _ c s=>EL X pins σ Pr post c s) ho h I rv E hl fun u2 s3 w2 dy H3 ρ1 k I3 r3 E3 q=>⟨.bl k,H3,_,ρ1,I3,rfl,E3.tail.cons_d (.bl k),q⟩
 | @cons op e o t ops es ls ho h r ih =>
  intro pins s σ H Pr ρ post v u dx pos I rv E hl
  cases r with
  | one ho2 h2 =>
   refine chain_link (op_link (R:=fun k dy ρ1=>if k=true then wLinks [_] dy ρ1 post else post (.d (.bl false)) ρ1) (Q:=fun b c s=>wpAny (model X.prog X.w) X.A (truthy c) (fun t s₃=>if t then _ else EL X pins σ Pr post c s₃) X.xe s) ho h I rv E hl fun u2 s3 w2 dy H3 ρ1 k I3 r3 E3 q=>?_)
   refine wpAny_truthy_bool ?_
   cases k with
   | false=>exact ite_ff ⟨.bl false,H3,_,ρ1,I3,rfl,E3.tail.cons_d (.bl false),q⟩
   | true=>exact ite_tt (ih pins s3 σ H3 Pr ρ1 post w2 u2 dy pos I3 r3 E3 q)
  | cons ho2 h2 r2 =>
   cases r2 with
   | one ho3 h3 =>
    refine chain_link (op_link (R:=fun k dy ρ1=>if k=true then wLinks (_::_::_) dy ρ1 post else post (.d (.bl false)) ρ1) (Q:=fun b c s=>wpAny (model X.prog X.w) X.A (truthy c) (fun t s₃=>if t then _ else EL X pins σ Pr post c s₃) X.xe s) ho h I rv E hl fun u2 s3 w2 dy H3 ρ1 k I3 r3 E3 q=>?_)
    refine wpAny_truthy_bool ?_
    cases k with
    | false=>exact ite_ff ⟨.bl false,H3,_,ρ1,I3,rfl,E3.tail.cons_d (.bl false),q⟩
    | true=>exact ite_tt (ih pins s3 σ H3 Pr ρ1 post w2 u2 dy pos I3 r3 E3 q)
   | cons ho3 h3 r3 =>
    refine chain_link (op_link (R:=fun k dy ρ1=>if k=true then wLinks (_::_::_) dy ρ1 post else post (.d (.bl false)) ρ1) (Q:=fun b c s=>wpAny (model X.prog X.w) X.A (truthy c) (fun t s₃=>if t then _ else EL X pins σ Pr post c s₃) X.xe s) ho h I rv E hl fun u2 s3 w2 dy H3 ρ1 k I3 r3 E3 q=>?_)
    refine wpAny_truthy_bool ?_
    cases k with
    | false=>exact ite_ff ⟨.bl false,H3,_,ρ1,I3,rfl,E3.tail.cons_d (.bl false),q⟩
    | true=>exact ite_tt (ih pins s3 σ H3 Pr ρ1 post w2 u2 dy pos I3 r3 E3 q)
theorem pl_chainN {op op':CmpOp} {ops:List CmpOp} {r1 r2:Expr} {rs:List Expr} {ls:List (Op2×W L)} (ha:PL X a ta) (h:Links X (op::op'::ops) (r1::r2::rs) ls) (hm:lastMarks (op::op'::ops) (r1::r2::rs)=false:=by with_unfolding_all rfl):PL X (.Compare a (op::op'::ops) (r1::r2::rs) pos) (wChainN ta ls):=by
 intro pins s σ H Pr ρ post I E ht
 refine Compare_chain (thn (ha pins s σ H Pr ρ _ I E ht) fun u s1 q=>?_) hm
 obtain ⟨v,H1,dx,ρ1,I1,rv,E1,q1⟩:=EL.frz (post:=fun dx ρ1=>wLinks ls dx ρ1 post) q
 exact links_pl h pins s1 σ H1 Pr ρ1 post v u dx pos I1 rv E1 q1
def strLe (x y:Str):Bool:=!decide (y.cps.toList < x.cps.toList)
theorem op_le_str:OpR X (compareOp .LtE) (fun x y H Q=>∃ i j,x=.str i∧y=.str j∧Q (.bl (strLe i j)) H):=by
 intro pins s σ H x y v u Q I rx ry ⟨i,j,ex,ey,q⟩
 subst ex ey
 obtain ⟨t,rfl⟩:=rx
 obtain ⟨t',rfl⟩:=ry
 refine PySem.P.le_str ⟨.bl _,H,I,rfl,?_⟩
 have e:(strLe i j)=(!(decide (j.cps.toList < i.cps.toList))):=rfl
 rw [e] at q
 exact q
def opLe2:Op2:=fun x y k=>match x,y with
 | .int i,.int j=>k (.d (.bl (decide (i≤j))))
 | .str i,.str j=>k (.d (.bl (strLe i j)))
 | _,_=>False
theorem od_le2:OpD X (compareOp .LtE) opLe2:=(OpD.or od_le (OpD.of (op:=fun x y k=>∃ i j,x=.str i∧y=.str j∧k (.d (.bl (strLe i j)))) op_le_str fun σ H Pr ρ x y dx dy post E px py ⟨i,j,e1,e2,h⟩=>by
 subst e1 e2
 cases px
 cases py
 exact ⟨i,j,rfl,rfl,_,E.cons_d (.bl _),h⟩)).imp fun x y k h=>by
 cases x <;> cases y <;> first | exact h.elim | exact .inl h | exact .inr ⟨_,_,rfl,rfl,h⟩
theorem truth_bools {prog:Program} {w:World} {A:Around} {ks:List Bool} {us:List Value} (h:us=ks.map Value.bool):TruthOf prog w A (fun i v=>us.toArray[i]?=some v) (fun i=>ks.getD i true):=fun i v s Q E hv hQ=>by
 subst h
 rw [List.getElem?_toArray,List.getElem?_map] at hv
 cases q:ks[i]? with
 | none=>rw [q] at hv; cases hv
 | some k =>
  rw [q] at hv
  cases hv
  refine wpAny_truthy_bool ?_
  have:ks.getD i true=k:=by rw [List.getD_eq_getElem?_getD,q]; rfl
  have hQ':Q (ks.getD i true) s:=hQ
  rw [this] at hQ'
  exact hQ'
theorem range_all (ks:List Bool):(List.range ks.length).all (fun i=>ks.getD i true)=ks.all id:=by
 apply Bool.eq_iff_iff.mpr
 simp only [List.all_eq_true,List.mem_range,id]
 constructor
 ·
  intro h x hx
  obtain ⟨i,hi,e⟩:=List.getElem_of_mem hx
  have:=h i hi
  rw [List.getD_eq_getElem?_getD,List.getElem?_eq_getElem hi] at this
  simpa [e] using this
 ·
  intro h i hi
  rw [List.getD_eq_getElem?_getD,List.getElem?_eq_getElem hi]
  exact h _ (List.getElem_mem hi)
theorem vals_bools:∀ {ks:List Bool} {us:List Value},Vals (ks.map V.bl) us→us=ks.map Value.bool
 | [],_,.nil=>rfl
 | k::ks,_,.cons r t=>by
  have e:=vals_bools t
  subst e
  cases r
  rfl
theorem call_all_seq (hc:X.calm=true):CallR X (.builtin "all") (fun xs H Q=>∃ (p:Addr) (ks:List Bool),xs=[.ref p]∧SqL X.K H p (ks.map V.bl)∧Q (.bl (ks.all id)) H):=by
 intro pins s σ H xs us Q I r ⟨p,ks,e,hq,q⟩
 subst e
 obtain ⟨u,rfl,r1⟩:=vals1 r
 cases r1
 obtain ⟨its,rv,pl,hz⟩:=I.list hq
 have e:=vals_bools rv
 refine call_all_walk (wpAny_pyIter_list pl.isList ?_)
 have hne:p≠s.heap.objs.size:=fun z=>by
  obtain ⟨o,n,eo,_⟩:=pl
  have:=Heap.lt_size eo
  rw [z] at this
  exact absurd this (Nat.lt_irrefl _)
 refine ⟨s.heap.objs.size,_,_,_,_,_,(fun i=>ks.getD i true),rfl,Walks.list (A:=X.A.in1) (I.ok.hd hc) _ p hne its.toArray,⟨⟨_,Heap.get?_push_size _ rfl,rfl,rfl⟩,pl.isList.at fun o eo=>Heap.get?_push_of_some _ eo⟩,truth_bools e,fun h' tk hk=>?_⟩
 have hl:its.toArray.size=ks.length:=by rw [e]; simp
 rw [hl,range_all]
 refine ⟨.bl _,H,I.kept (h':=h') (t':=tk) fun b o eb=>hk b o (fun hm=>?_) (Heap.get?_push_of_some _ eb),rfl,q⟩
 have e2:b=s.heap.objs.size:=by simpa using hm
 have:=Heap.lt_size eb
 rw [e2] at this
 exact absurd this (Nat.lt_irrefl _)
theorem bools_of_reps {K:PySem.W.Frag} {H:Hp}:∀ {vs:List V} {ks:List Bool},Reps K H vs (ks.map D.bl)→vs=ks.map V.bl
 | [],[],_=>rfl
 | _::_,k::ks,.cons r t=>by
  cases r
  rw [bools_of_reps t]; rfl
 | [],_::_,r=>nomatch r
 | _::_,[],r=>nomatch r
def opAll:OpN:=fun ds k=>∃ ks:List Bool,ds=[.lst (ks.map D.bl)]∧k (.d (.bl (ks.all id)))
theorem cd_all (hc:X.calm=true):CallD X (.builtin "all") opAll:=CallD.of (call_all_seq hc) fun σ H Pr ρ vs ds post E ps ⟨ks,e,h⟩=>by
 subst e
 obtain ⟨v,rfl,r⟩:=reps1 ps
 cases r with
 | lst hz rs =>
  have e:=bools_of_reps rs
  subst e
  exact ⟨_,ks,rfl,hz.l,_,E.cons_d (.bl _),h⟩
end
end L2
set_option exponentiation.threshold 2000
namespace L2
open PySem PySem.Spec PyProof.Rows
section
variable {X:Cx} {e a b c tg:Expr} {es rest:List Expr} {pos p p2 apos cpos:Pos} {ta tb tc te:W L} {x y:Str}
mutual
def shortD:D→Bool
 | .int i=>decide (i.natAbs < 2 ^ 1900)
 | .tup xs=>shortDs xs
 | .lst xs=>shortDs xs
 | _=>true
def shortDs:List D→Bool
 | []=>true
 | x::xs=>shortD x && shortDs xs
end
theorem two1900:(2:Nat) ^ 1900 < 10 ^ 600:=by decide +kernel
theorem int_short {i:Int} (h:i.natAbs < 2 ^ 1900):(PyData.shown (.int i)).length≤601:=by
 have e:=PySem.int_text_length_le10 (k:=600) (by decide) (Nat.lt_trans h two1900)
 show (Str.ofString (toString i)).length≤601
 rw [PySem.ofString_length]; exact e
mutual
theorem short_is:∀ d:D,shortD d=true→(toP d).intsShort 601=true∧(toP d).showable=true
 | .non,_=>⟨rfl,rfl⟩
 | .bl _,_=>⟨rfl,rfl⟩
 | .str _,_=>⟨rfl,rfl⟩
 | .dct _,_=>⟨rfl,rfl⟩
 | .exc _ _ _,_=>⟨rfl,rfl⟩
 | .fn _ _,_=>⟨rfl,rfl⟩
 | .int i,h=>by
  have h':i.natAbs < 2 ^ 1900:=by simpa only [shortD,decide_eq_true_eq] using h
  refine ⟨by simp only [toP,PyData.intsShort,decide_eq_true_eq]; exact int_short h',?_⟩
  simp only [toP,PyData.showable,decide_eq_true_eq]
  by_cases h0:i.natAbs=0
  ·
   rw [h0]; decide
  ·
   exact (Nat.log2_lt h0).mpr (Nat.lt_of_lt_of_le h' (Nat.pow_le_pow_right (by decide) (by decide)))
 | .tup xs,h=>by
  obtain ⟨h1,h2⟩:=short_iss xs (by simpa only [shortD] using h)
  exact ⟨by simpa only [toP,PyData.intsShort] using h1,by simpa only [toP,PyData.showable] using h2⟩
 | .lst xs,h=>by
  obtain ⟨h1,h2⟩:=short_iss xs (by simpa only [shortD] using h)
  exact ⟨by simpa only [toP,PyData.intsShort] using h1,by simpa only [toP,PyData.showable] using h2⟩
theorem short_iss:∀ ds:List D,shortDs ds=true→PyData.intsShortAll 601 (toPs ds)=true∧PyData.showableAll (toPs ds)=true
 | [],_=>⟨rfl,rfl⟩
 | d::ds,h=>by
  simp only [shortDs,Bool.and_eq_true] at h
  obtain ⟨h1,h2⟩:=short_is d h.1
  obtain ⟨h3,h4⟩:=short_iss ds h.2
  exact ⟨by simp only [toPs,PyData.intsShortAll,h1,h3,Bool.and_self],by simp only [toPs,PyData.showableAll,h2,h4,Bool.and_self]⟩
end
structure ReprOk (d:D):Prop where
 ok:okD 40 d=true
 sh:shortD d=true
 wt:(toP d).weight≤20000
theorem ReprOk.len {d:D} (h:ReprOk d):(toP d).shown.length≤sizeLine:=by
 have h1:=PyData.shown_le 601 (by decide) (toP d) (PyData.leavesShort_of_canLay0 601 _ (okD_lay 40 d h.ok).1 (short_is d h.sh).1)
 have h2:=h.wt
 have e:sizeLine=16777216:=by decide
 rw [e]
 omega
def fzW (f:Fl) (o:Option L) (j:Nat) (ρ1:Ev) (post:Fl→Ev→Prop):Prop:=match f with
 | .nx=>(match o with
  | some (.own _ xs)=>post .nx (ρ1.set j (.d (.lst xs)))
  | _=>post .nx ρ1)
 | f=>post f ρ1
theorem fzW_own (a:Addr) (xs:List D) (j:Nat) (ρ1:Ev) (post:Fl→Ev→Prop):fzW .nx (some (.own a xs)) j ρ1 post=post .nx (ρ1.set j (.d (.lst xs))):=(rfl)
theorem fzW_d (x:D) (j:Nat) (ρ1:Ev) (post:Fl→Ev→Prop):fzW .nx (some (.d x)) j ρ1 post=post .nx ρ1:=(rfl)
end
end L2
namespace L2
open PySem PySem.Spec PyProof.Rows
section
variable {X:Cx} {e a b c tg:Expr} {es rest:List Expr} {pos p p2 apos cpos:Pos} {ta tb tc te:W L} {x y:Str}
end
end L2
namespace L2
open PySem PySem.Spec PyProof.Rows
section
variable {X:Cx} {pins:List (Addr×Obj)} {σ:St} {H Pr:Hp} {s:Shared} {ρ:Ev} {pos p1 p2:Pos}
theorem Inv.past (I:Inv X pins σ H s):(s.heap.objs.size == sysModules)=false:=by
 have h:mainGlobals < s.heap.objs.size:=(I.mod.glob.keeps I.bk).lt
 exact beq_eq_false_iff_ne.mpr (Ne.symm (Nat.ne_of_lt (Nat.lt_trans (by decide) h)))
def Itx (x:Str):It:=⟨fun i _=>i < x.cps.size,fun i H v H'=>(∃ c,x.cps[i]?=some c∧v=.str ⟨#[c]⟩)∧H'=H,fun i _=>x.cps.size≤i⟩
theorem turn_str {P:Program} {w:World} {K:PySem.W.Frag} {tg:Expr} (it:Addr) (x:Str) (t:Tok):Turn P w K tg (Itx x) [it] it (fun i h=>h.IsStrIter it "str_ascii_iterator" x t i) where
 mem:=by simp
 obj:=fun i h st b hb=>by
  have e:b=it:=by simpa using hb
  subst e
  obtain ⟨o,e,c,d⟩:=st
  exact ⟨o,e,fun v z=>by rw [d] at z; cases z⟩
 keep:=fun i h h' st k=>by
  obtain ⟨o,e,c,d⟩:=st
  exact ⟨o,k it (by simp) o e,c,d⟩
 item:=by
  intro X hP hw hK hc i pins s σ H E I hf st hg
  subst hP hw hK
  obtain ⟨f0,f1,f2,f3,f4,f5⟩:=hf it (by simp)
  refine wpAny_pyNext_ascii_item st (Array.getElem?_eq_getElem hg) fun h' st' sb=>?_
  have I1:Inv X pins σ H { s with heap:=h',toks:=s.toks+1 }:=I.turned (t':=s.toks+1) (fun b o hb e=>(sb.2 b hb).trans e) f0 f1 f3 f4 f5
  obtain ⟨o,e,c,d⟩:=id st'
  exact ⟨_,rfl,go_of (s:={ s with heap:=h',toks:=s.toks+1 }) e c d (by decide) ⟨.str ⟨#[x.cps[i]]⟩,H,I1,⟨_,rfl⟩,⟨⟨_,Array.getElem?_eq_getElem hg,rfl⟩,rfl⟩,st',fun b hb=>(hf b hb).1⟩⟩
 done:=by
  intro X hP hw hK hc i pins s σ H E I hf st hg
  subst hP hw hK
  obtain ⟨f0,f1,f2,f3,f4,f5⟩:=hf it (by simp)
  exact wpAny_pyNext_ascii_end (I.ok.hd hc) st (Array.getElem?_eq_none hg) fun h' eb=>⟨rfl,I.turned (t':=s.toks) (fun b o hb e=>eb b o hb e) f0 f1 f3 f4 f5⟩
 self:=fun _ _ _ _ _ st h=>wpAny_pyIter_striter_ascii st h
def signsD (x:Str):List D:=x.cps.toList.map fun c=>.str ⟨#[c]⟩
theorem gives_str {K:PySem.W.Frag} {H:Hp} (x:Str):Gives K H (Itx x) (signsD x):=fun H' p=>by
 refine ⟨fun i y e=>?_,?_⟩
 ·
  unfold signsD at e
  rw [List.getElem?_map] at e
  cases hc:x.cps.toList[i]? with
  | none=>rw [hc] at e; cases e
  | some c =>
   rw [hc] at e
   have ey:D.str ⟨#[c]⟩=y:=Option.some.inj e
   subst ey
   have hi:i < x.cps.size:=by simpa using (List.getElem?_eq_some_iff.mp hc).1
   refine ⟨hi,fun v H2 ⟨⟨c',e1,e2⟩,e3⟩=>?_⟩
   have:x.cps[i]?=some c:=by simpa using hc
   rw [this] at e1
   cases e1
   subst e2 e3
   exact ⟨.inl rfl,.str _⟩
 ·
  show x.cps.size≤(signsD x).length
  simp [signsD]
def signsOf (d:D) (k:List D→Prop):Prop:=match d with
 | .str x=>x.cps.all (· < 128)=true∧k (signsD x)
 | _=>False
def wSrcS (t:W L):W (List D):=fun ρ post=>t ρ fun r ρ1=>toD r fun x=>signsOf x fun xs=>post xs ρ1
theorem pil_str {e tg:Expr} {t:W L} (h:PL X e t):PIL X tg e (wSrcS t):=by
 intro pins s σ H Pr ρ post I E ht
 refine thn (h pins s σ H Pr ρ _ I E ht) fun u s1 q=>?_
 obtain ⟨v,H1,x,ρ1,I1,r1,E1,q2⟩:=EL.frz (post:=fun x ρ1=>signsOf x fun xs=>post xs ρ1) q
 obtain ⟨_,e1,p⟩:=E1.head_d
 cases e1
 cases p with
 | str y =>
  obtain ⟨t,rfl⟩:=r1
  obtain ⟨ha,q3⟩:y.cps.all (· < 128)=true∧post (signsD y) ρ1:=q2
  refine wpAny_pyIter_ascii ha ?_
  refine ⟨s1.heap.objs.size,[s1.heap.objs.size],_,_,H1,_,ρ1,rfl,I1.kept (t':=s1.toks) fun b o e=>Heap.get?_push_of_some _ e,turn_str _ y t,⟨_,Heap.get?_push_size _ rfl,rfl,rfl⟩,fun b hb=>?_,E1.tail,gives_str y,q3⟩
  have e:b=s1.heap.objs.size:=by simpa using hb
  subst e
  exact I1.fpOk (Nat.le_refl _) (I1.hok.fresh (Nat.le_refl _))
 | _=>exact q2.elim
end
end L2
namespace L2
open PySem PySem.Spec PyProof.Rows
structure FX (K:PySem.W.Frag) (mg:Str→Option Value) (g:Str) (st:Stmt) (a:Addr) (fd:FuncData) (P:List Str):Prop where
 f:Fun K g g st a fd
 b:Binds K fd P []
 m:mg g=some (.ref a)
abbrev fdM (g:Str) (st:Stmt) (md:Value) (c:Nat):FuncData:=PySem.W.fnOf g g (defArgs st) (defBody st) (defScope st) .none .none .none md none (.ref c) .none
theorem FX.mk' {K:PySem.W.Frag} {mg:Str→Option Value} {h:Heap} (X:K.In h) (G:h.Ns mainGlobals mg) {g:Str} {st:Stmt} {a:Addr} {c:Nat} {md:Value} {P:List Str} (e1:PySem.W.nsIn K mainGlobals g=some (some (.ref a)))
  (e2:K.lookup a=some ⟨.type "function",none,.func (fdM g st md c),#[]⟩) (e3:PySem.W.codeIn K (.ref c) g=true) (e4:PySem.W.keepIn K (.ref a)=true)
  (e5:∀ (kV doc pm:Value) (an:Option Addr) (cdv ct:Value) (us:List Value),us.length=P.length→bindArgs (PySem.W.fnOf g g (defArgs st) (defBody st) (defScope st) .none kV doc pm an cdv ct) ⟨us,[]⟩=pure (P.zip us)):FX K mg g st a (fdM g st md c) P :=
 ⟨fun_mk e2 e3 e4,(fun_mk e2 e3 e4).binds e5,PySem.W.mg_of X G e1⟩
section
variable {X:Cx} {k k' n:Nat} {f:Addr} {fd:FuncData} {ps:List Str} {fs:FS} {g:Str} {st:Stmt} {e:Expr} {es:List Expr} {bs:List (Option Nat)} {t:W (List L)} {p pos:Pos}
theorem pl_cx (F:FnOk X.prog X.w X.K X.mg X.base CX0 k f fd ps (spF X.K n fs)) (T:FX X.K X.mg g st f fd ps) (hr:Room k' X.A) (ha:PAL X (e::es) bs t) (hk:k≤k':=by decide) (hg:Gl X g:=by rfl) (hn:bs.length=n:=by rfl) (hdb:(g == ("__debug__" : Str))=false:=by decide) (he:starEach (e::es) X.env=(false,eval e X.env)::starEach es X.env:=by rfl) (hpl:(backTo pos (starEach es X.env)).any (·.1)=false:=by rfl) :
  PL X (.Call (.Name g p) (e::es) [] pos) (wCall fs t):=pl_call F (hr.mono hk) hg T.m T.f.kp T.b pass0 ha hn hdb he hpl
theorem pl_cxB (F:FnOk X.prog X.w X.K X.mg X.base CX0 k f fd ps (spF X.K n fs)) (T:FX X.K X.mg g st f fd ps) (hr:Room k' X.A) (j i:Nat) (ha:PAL X (e::es) bs t) (hk:k≤k':=by decide) (hg:Gl X g:=by rfl) (hj:bs[j]?=some (some i):=by rfl) (hn:bs.length=n:=by rfl) (hdb:(g == ("__debug__" : Str))=false:=by decide) (he:starEach (e::es) X.env=(false,eval e X.env)::starEach es X.env:=by rfl) (hpl:(backTo pos (starEach es X.env)).any (·.1)=false:=by rfl) :
  PL X (.Call (.Name g p) (e::es) [] pos) (wCallB fs j i t):=pl_callB F (hr.mono hk) hg T.m T.f.kp T.b pass0 j i ha hj hn hdb he hpl
end
end L2
namespace L2
open PySem PySem.Spec PyProof.Rows
section
variable {X:Cx}
end
end L2
namespace L2
open PySem PySem.Spec PyProof.Rows
mutual
def depD:D→Nat
 | .tup xs=>depDs xs+1
 | .lst xs=>depDs xs+1
 | _=>0
def depDs:List D→Nat
 | []=>0
 | x::xs=>max (depD x) (depDs xs)
end
theorem depDs_mem {x:D}:∀ {xs:List D},x∈xs→depD x≤depDs xs
 | y::ys,h=>by
  simp only [depDs]
  rcases List.mem_cons.mp h with rfl | h
  ·
   omega
  ·
   have:=depDs_mem h; omega
theorem depDs_le {n:Nat}:∀ {xs:List D},(∀ x∈xs,depD x≤n)→depDs xs≤n
 | [],_=>Nat.zero_le _
 | y::ys,h=>by
  simp only [depDs]
  have:=h y List.mem_cons_self
  have:=depDs_le (xs:=ys) fun x hx=>h x (List.mem_cons_of_mem _ hx)
  omega
section
variable {X:Cx} {a:Expr} {pos p:Pos} {ta:W L}
end
end L2
namespace L2
open PySem PySem.Spec PyProof.Rows PySem.Builtin.Str
inductive Sk where
 | l | t
def Sk.At:Sk→Heap→Addr→Addr→Nat→Prop
 | .l,h,j,a,i=>h.IsListIter j a i
 | .t,h,j,a,i=>IsTupIter h j a i
def Sk.Sq:Sk→Heap→Addr→Array Value→Prop
 | .l,h,a,xs=>h.IsList a xs
 | .t,h,a,xs=>IsTup h a xs
theorem Sk.At.to {k:Sk} {h h':Heap} {j a:Addr} {i:Nat} (x:k.At h j a i) (e:∀ o,h.get? j=some o→h'.get? j=some o):k.At h' j a i:=by
 cases k with
 | l=>obtain ⟨o,z,r⟩:=x; exact ⟨o,e _ z,r⟩
 | t=>obtain ⟨o,z,r⟩:=x; exact ⟨o,e _ z,r⟩
theorem Sk.Sq.to {k:Sk} {h h':Heap} {a:Addr} {xs:Array Value} (x:k.Sq h a xs) (e:∀ o,h.get? a=some o→h'.get? a=some o):k.Sq h' a xs:=by
 cases k with
 | l=>obtain ⟨o,z,r⟩:=x; exact ⟨o,e _ z,r⟩
 | t=>obtain ⟨o,z,r⟩:=x; exact ⟨o,e _ z,r⟩
theorem Sk.At.obj {k:Sk} {h:Heap} {j a:Addr} {i:Nat} (x:k.At h j a i):∃ o,h.get? j=some o∧(∀ v,o.data≠.cell v)∧o.cls≠.type "list"∧o.cls≠.type "tuple":=by
 cases k with
 | l=>obtain ⟨o,z,c,d⟩:=x; exact ⟨o,z,(fun v q=>by rw [d] at q; cases q),by rw [c]; simp,by rw [c]; simp⟩
 | t=>obtain ⟨o,z,c,d⟩:=x; exact ⟨o,z,(fun v q=>by rw [d] at q; cases q),by rw [c]; simp,by rw [c]; simp⟩
theorem Sk.Sq.obj {k:Sk} {h:Heap} {a:Addr} {xs:Array Value} (x:k.Sq h a xs):∃ o,h.get? a=some o∧(o.cls=.type "list"∨o.cls=.type "tuple"):=by
 cases k with
 | l=>obtain ⟨o,z,c,d⟩:=x; exact ⟨o,z,.inl c⟩
 | t=>obtain ⟨o,z,c,d⟩:=x; exact ⟨o,z,.inr c⟩
section
variable {prog:Program} {w:World} {A:Around} {E:Value→Shared→Prop} {s:Shared}
end
abbrev IsTpl (h:Heap) (T:Addr) (xs:List Value):Prop:=h.get? T=some { cls:=.type "tuple",data:=.seq xs.toArray }
abbrev Zi:=Sk×Addr×Addr
def Zi.ofs (js:List Zi):List Addr:=js.map (·.2.1)
structure ZA (z I O:Addr) (js:List Zi):Prop where
 nd:(z::I::O::Zi.ofs js).Nodup
 src:∀ p∈js,p.2.2∉z::O::Zi.ofs js
def ZKeep (z O:Addr) (js:List Zi) (h h':Heap):Prop:=∀ c o,c∉z::O::Zi.ofs js→h.get? c=some o→h'.get? c=some o
structure ZMid (z I O:Addr) (js:List Zi) (xs:List Value) (i j:Nat) (h₀ h:Heap):Prop where
 hz:IsZip h z I O .ellipsis
 hO:∃ os,os.length=js.length∧IsTpl h O os∧os.take j=xs.take j
 ahead:∀ m p,m < j→js[m]?=some p→p.1.At h p.2.1 p.2.2 (i+1)
 behind:∀ m p,j≤m→js[m]?=some p→p.1.At h p.2.1 p.2.2 i
 keep:ZKeep z O js h₀ h
 sz:h.objs.size=h₀.objs.size
theorem ofs_mem {js:List Zi} {p:Zi} (h:p∈js):p.2.1∈Zi.ofs js:=List.mem_map.mpr ⟨p,h,rfl⟩
theorem ZA.zO {z I O:Addr} {js:List Zi} (D:ZA z I O js):z≠O:=fun e=>by have:=D.nd; simp [e] at this
theorem ZA.zj {z I O:Addr} {js:List Zi} (D:ZA z I O js) {p:Zi} (hp:p∈js):p.2.1≠z∧p.2.1≠O:=by
 have n:=D.nd
 have m:=ofs_mem hp
 simp only [List.nodup_cons,List.mem_cons,not_or] at n
 exact ⟨fun e=>n.1.2.2 (e ▸ m),fun e=>n.2.2.1 (e ▸ m)⟩
theorem ZA.inj {z I O:Addr} {js:List Zi} (D:ZA z I O js) {m m':Nat} {p p':Zi} (h:js[m]?=some p) (h':js[m']?=some p') (e:p.2.1=p'.2.1):m=m':=by
 have n:=D.nd
 simp only [List.nodup_cons] at n
 obtain ⟨hm,e1⟩:=List.getElem?_eq_some_iff.mp h
 obtain ⟨hm',e2⟩:=List.getElem?_eq_some_iff.mp h'
 have key:=List.pairwise_iff_getElem.mp n.2.2.2
 have q:∀ k (hk:k < js.length),(Zi.ofs js)[k]'(by simpa [Zi.ofs] using hk)=js[k].2.1:=fun k hk=>by simp [Zi.ofs]
 have hl:(Zi.ofs js).length=js.length:=by simp [Zi.ofs]
 rcases Nat.lt_trichotomy m m' with g | g | g
 ·
  exact absurd (by rw [q m hm,q m' hm',e1,e2,e]) (key m m' (by omega) (by omega) g)
 ·
  exact g
 ·
  exact absurd (by rw [q m hm,q m' hm',e1,e2,e]) (key m' m (by omega) (by omega) g)
section
variable {prog:Program} {w:World} {A:Around} {E:Value→Shared→Prop} {s:Shared} {z I O:Addr} {js:List Zi} {i:Nat}
theorem ZMid.next (D:ZA z I O js) {xs os:List Value} {j:Nat} {p:Zi} {x:Value} {h₀ h h1:Heap} (hj:js[j]?=some p) (hx:xs[j]?=some x) (M:ZMid z I O js xs i j h₀ h) (a1:p.1.At h1 p.2.1 p.2.2 (i+1)) (s1:Heap.SameBut p.2.1 h h1)
  (ol:os.length=js.length) (ho1:IsTpl h1 O os) (ht:os.take j=xs.take j):ZMid z I O js xs i (j+1) h₀ (h1.update O (Obj.mapSeq (·.setIfInBounds j x))):=by
 have pm:p∈js:=List.mem_of_getElem? hj
 have jl:j < js.length:=(List.getElem?_eq_some_iff.mp hj).1
 have s2:Heap.SameBut O h1 (h1.update O (Obj.mapSeq (·.setIfInBounds j x))):=Heap.SameBut.update ..
 have ho2:IsTpl (h1.update O (Obj.mapSeq (·.setIfInBounds j x))) O (os.set j x):=by
  show Heap.get? _ _=_
  rw [Heap.get?_update_self _ ho1 rfl]
  simp [Obj.mapSeq]
 have k2:∀ c o,c≠O→c≠p.2.1→h.get? c=some o→(h1.update O (Obj.mapSeq (·.setIfInBounds j x))).get? c=some o:=fun c o n1 n2 e=>s2.extBut _ _ n1 (s1.extBut _ _ n2 e)
 refine ⟨k2 _ _ D.zO (Ne.symm (D.zj pm).1) M.hz,⟨os.set j x,by simp [ol],ho2,?_⟩,fun m q hm hq=>?_,fun m q hm hq=>?_,fun c o hc e=>?_,by rw [s2.1,s1.1]; exact M.sz⟩
 ·
  have hxl:j < xs.length:=(List.getElem?_eq_some_iff.mp hx).1
  rw [List.take_succ,List.take_succ,List.getElem?_set_self (by omega),hx,List.take_set_of_le (Nat.le_refl _),ht]
 ·
  have qm:q∈js:=List.mem_of_getElem? hq
  rcases Nat.lt_or_ge m j with h | h
  ·
   have ne:q.2.1≠p.2.1:=fun e=>by have:=D.inj hq hj e; omega
   exact (M.ahead m q h hq).to fun o e=>k2 _ o (D.zj qm).2 ne e
  ·
   have:m=j:=by omega
   subst this
   rw [hj] at hq
   cases hq
   exact a1.to fun o e=>s2.extBut _ _ (D.zj pm).2 e
 ·
  have qm:q∈js:=List.mem_of_getElem? hq
  have ne:q.2.1≠p.2.1:=fun e=>by have:=D.inj hq hj e; omega
  exact (M.behind m q (by omega) hq).to fun o e=>k2 _ o (D.zj qm).2 ne e
 ·
  have n:=hc
  simp only [List.mem_cons,not_or] at n
  exact k2 c o n.2.1 (fun q=>n.2.2 (q ▸ ofs_mem pm)) (M.keep c o hc e)
end
end L2
namespace L2
open PySem PySem.Spec PyProof.Rows PySem.Builtin.Str
def Sk.nm:Sk→String
 | .l=>"list_iterator"
 | .t=>"tuple_iterator"
abbrev Sk.itO (k:Sk) (a:Addr):Obj:={ cls:=.type k.nm,data:=.fields #[.ref a,.int 0 0] }
section
variable {prog:Program} {w:World} {A:Around} {E:Value→Shared→Prop} {s:Shared}
theorem Sk.iter {k:Sk} {a:Addr} {ys:Array Value} {Q:Value→Shared→Prop} (h:k.Sq s.heap a ys) (hQ:Q (.ref s.heap.objs.size) { s with heap:=s.heap.push (k.itO a) }):wpAny (model prog w) A (pyIter (.ref a)) Q E s:=by
 cases k with
 | l=>exact wpAny_pyIter_list h hQ
 | t=>exact iter_tuple h hQ
end
end L2
namespace L2
open PySem PySem.Spec PyProof.Rows PySem.Builtin.Str
def SqK (K:PySem.W.Frag) (H:Hp):Sk→Addr→List V→Prop
 | .l,a,xs=>SqL K H a xs
 | .t,a,xs=>SqT K H a xs
section
variable {X:Cx} {pins:List (Addr×Obj)} {σ:St} {H:Hp} {s:Shared}
end
def SqF (K:PySem.W.Frag) (H:Hp):Sk→Addr→List V→Prop
 | .l,a,xs=>SqZ K H a xs
 | .t,a,xs=>SqT K H a xs
theorem SqF.pres {K:PySem.W.Frag} {H H':Hp} {k:Sk} {a:Addr} {xs:List V} (p:Pres H H') (h:SqF K H k a xs):SqK K H' k a xs:=by
 cases k with
 | l=>exact (SqZ.pres p h).l
 | t=>exact SqT.pres p h
def Sk.mk:Sk→List D→D
 | .l,xs=>.lst xs
 | .t,xs=>.tup xs
section
variable {prog:Program} {w:World} {A:Around} {E:Value→Shared→Prop} {s:Shared}
end
section
variable {X:Cx} {a b:Expr} {es:List Expr} {pos p apos:Pos}
end
end L2
namespace L2
open PySem PySem.Spec PyProof.Rows PySem.Builtin.Str
section
variable {prog:Program} {w:World} {A:Around} {E:Value→Shared→Prop} {s:Shared}
end
section
variable {X:Cx} {a b c:Expr} {es:List Expr} {pos p apos:Pos}
end
end L2
namespace L2
open PySem PySem.Spec PyProof.Rows PySem.Builtin.Str
section
variable {prog:Program} {w:World} {A:Around} {E:Value→Shared→Prop} {s:Shared} {z I O:Addr} {js:List Zi} {i:Nat}
structure ZMd (zo:Obj) (z O:Addr) (js:List Zi) (xs:List Value) (i j:Nat) (h₀ h:Heap):Prop where
 hz:h.get? z=some zo
 hO:∃ os,os.length=js.length∧IsTpl h O os∧os.take j=xs.take j
 ahead:∀ m p,m < j→js[m]?=some p→p.1.At h p.2.1 p.2.2 (i+1)
 behind:∀ m p,j≤m→js[m]?=some p→p.1.At h p.2.1 p.2.2 i
 keep:ZKeep z O js h₀ h
 sz:h.objs.size=h₀.objs.size
theorem ZMd.next (D:ZA z I O js) {zo:Obj} {xs os:List Value} {j:Nat} {p:Zi} {x:Value} {h₀ h h1:Heap} (hj:js[j]?=some p) (hx:xs[j]?=some x) (M:ZMd zo z O js xs i j h₀ h) (a1:p.1.At h1 p.2.1 p.2.2 (i+1)) (s1:Heap.SameBut p.2.1 h h1)
  (ol:os.length=js.length) (ho1:IsTpl h1 O os) (ht:os.take j=xs.take j):ZMd zo z O js xs i (j+1) h₀ (h1.update O (Obj.mapSeq (·.setIfInBounds j x))):=by
 have pm:p∈js:=List.mem_of_getElem? hj
 have jl:j < js.length:=(List.getElem?_eq_some_iff.mp hj).1
 have s2:Heap.SameBut O h1 (h1.update O (Obj.mapSeq (·.setIfInBounds j x))):=Heap.SameBut.update ..
 have ho2:IsTpl (h1.update O (Obj.mapSeq (·.setIfInBounds j x))) O (os.set j x):=by
  show Heap.get? _ _=_
  rw [Heap.get?_update_self _ ho1 rfl]
  simp [Obj.mapSeq]
 have k2:∀ c o,c≠O→c≠p.2.1→h.get? c=some o→(h1.update O (Obj.mapSeq (·.setIfInBounds j x))).get? c=some o:=fun c o n1 n2 e=>s2.extBut _ _ n1 (s1.extBut _ _ n2 e)
 refine ⟨k2 _ _ D.zO (Ne.symm (D.zj pm).1) M.hz,⟨os.set j x,by simp [ol],ho2,?_⟩,fun m q hm hq=>?_,fun m q hm hq=>?_,fun c o hc e=>?_,by rw [s2.1,s1.1]; exact M.sz⟩
 ·
  have hxl:j < xs.length:=(List.getElem?_eq_some_iff.mp hx).1
  rw [List.take_succ,List.take_succ,List.getElem?_set_self (by omega),hx,List.take_set_of_le (Nat.le_refl _),ht]
 ·
  have qm:q∈js:=List.mem_of_getElem? hq
  rcases Nat.lt_or_ge m j with h | h
  ·
   have ne:q.2.1≠p.2.1:=fun e=>by have:=D.inj hq hj e; omega
   exact (M.ahead m q h hq).to fun o e=>k2 _ o (D.zj qm).2 ne e
  ·
   have:m=j:=by omega
   subst this
   rw [hj] at hq
   cases hq
   exact a1.to fun o e=>s2.extBut _ _ (D.zj pm).2 e
 ·
  have qm:q∈js:=List.mem_of_getElem? hq
  have ne:q.2.1≠p.2.1:=fun e=>by have:=D.inj hq hj e; omega
  exact (M.behind m q (by omega) hq).to fun o e=>k2 _ o (D.zj qm).2 ne e
 ·
  have n:=hc
  simp only [List.mem_cons,not_or] at n
  exact k2 c o n.2.1 (fun q=>n.2.2 (q ▸ ofs_mem pm)) (M.keep c o hc e)
structure ZMp (zo:Obj) (z O:Addr) (js:List Zi) (i j:Nat) (h₀ h:Heap):Prop where
 hz:h.get? z=some zo
 hO:∃ os,os.length=js.length∧IsTpl h O os
 ahead:∀ m p,m < j→js[m]?=some p→p.1.At h p.2.1 p.2.2 (i+1)
 behind:∀ m p,j≤m→js[m]?=some p→p.1.At h p.2.1 p.2.2 i
 keep:ZKeep z O js h₀ h
 sz:h.objs.size=h₀.objs.size
theorem ZMp.next (D:ZA z I O js) {zo:Obj} {j:Nat} {p:Zi} {h₀ h h1:Heap} (hj:js[j]?=some p) (M:ZMp zo z O js i j h₀ h) (a1:p.1.At h1 p.2.1 p.2.2 (i+1)) (s1:Heap.SameBut p.2.1 h h1):ZMp zo z O js i (j+1) h₀ h1:=by
 have pm:p∈js:=List.mem_of_getElem? hj
 obtain ⟨os,ol,ho⟩:=M.hO
 have k2:∀ c o,c≠p.2.1→h.get? c=some o→h1.get? c=some o:=fun c o n e=>s1.extBut _ _ n e
 refine ⟨k2 _ _ (Ne.symm (D.zj pm).1) M.hz,⟨os,ol,k2 _ _ (Ne.symm (D.zj pm).2) ho⟩,fun m q hm hq=>?_,fun m q hm hq=>?_,fun c o hc e=>?_,by rw [s1.1]; exact M.sz⟩
 ·
  rcases Nat.lt_or_ge m j with h | h
  ·
   have ne:q.2.1≠p.2.1:=fun e=>by have:=D.inj hq hj e; omega
   exact (M.ahead m q h hq).to fun o e=>k2 _ o ne e
  ·
   have:m=j:=by omega
   subst this
   rw [hj] at hq
   cases hq
   exact a1
 ·
  have ne:q.2.1≠p.2.1:=fun e=>by have:=D.inj hq hj e; omega
  exact (M.behind m q (by omega) hq).to fun o e=>k2 _ o ne e
 ·
  have n:=hc
  simp only [List.mem_cons,not_or] at n
  exact k2 c o (fun q=>n.2.2 (q ▸ ofs_mem pm)) (M.keep c o hc e)
theorem ZMp.put (D:ZA z I O js) {zo:Obj} {j k:Nat} {x:Value} {os:List Value} {h₀ h:Heap} (M:ZMp zo z O js i j h₀ h) (hk:k < js.length) (ho:IsTpl h O os) (ol:os.length=js.length):ZMp zo z O js i j h₀ (h.update O (Obj.mapSeq (·.setIfInBounds k x))):=by
 have s2:Heap.SameBut O h (h.update O (Obj.mapSeq (·.setIfInBounds k x))):=Heap.SameBut.update ..
 refine ⟨s2.extBut _ _ D.zO M.hz,⟨os.set k x,by simp [ol],?_⟩,fun m p hm hp=>(M.ahead m p hm hp).to fun o e=>s2.extBut _ _ (D.zj (List.mem_of_getElem? hp)).2 e,fun m p hm hp=>(M.behind m p hm hp).to fun o e=>s2.extBut _ _ (D.zj (List.mem_of_getElem? hp)).2 e,fun c o hc e=>s2.extBut _ _ (fun q=>hc (by simp [q])) (M.keep c o hc e),by rw [s2.1]; exact M.sz⟩
 show Heap.get? _ _=_
 rw [Heap.get?_update_self _ ho rfl]
 simp [Obj.mapSeq]
end
end L2
namespace L2
open PySem PySem.Spec PyProof.Rows PySem.Builtin.Str
section
variable {prog:Program} {w:World} {A:Around} {s:Shared} {R:Result→Shared→Prop} {z I O S:Addr} {js:List Zi}
theorem ZKeep.mono {h h':Heap} (k:ZKeep z O js h h') {c:Addr} {o:Obj} (hc:c∉z::O::Zi.ofs js) (e:h.get? c=some o):h'.get? c=some o:=k c o hc e
end
section
variable {prog:Program} {w:World} {A:Around} {E:Value→Shared→Prop} {s:Shared} {z I O:Addr} {js:List Zi}
end
end L2
namespace L2
open PySem PySem.Spec PyProof.Rows PySem.Builtin.Str
section
variable {K:PySem.W.Frag} {Pr H H':Hp} {σ:St} {ρ:Ev}
theorem REnv.more (E:REnv K Pr H σ ρ) (k:∀ b u,H b=some u→H' b=some u):REnv K Pr H' σ ρ :=
 ⟨fun b u e=>k b u (E.sub b u e),E.nd,E.off,Paired.impMem E.sl fun l hl s q=>q.pres (fun b u _ e=>k b u e) l fun a e=>by
  obtain ⟨vs,e,_⟩:=E.at_own (mem_owns.mpr ⟨l,hl,e⟩)
  rw [k _ _ e,e]⟩
end
section
variable {X:Cx} {pins:List (Addr×Obj)} {σ:St} {H:Hp} {s:Shared}
end
end L2
namespace L2
open PySem PySem.Spec PyProof.Rows PySem.Builtin.Str
section
variable {X:Cx} {a b:Expr} {es:List Expr} {pos p pos0 p0:Pos}
end
end L2
namespace L2
open PySem PySem.Spec PyProof.Rows PySem.Builtin.Str
section
variable {prog:Program} {w:World} {A:Around} {E:Value→Shared→Prop} {s:Shared}
end
section
variable {X:Cx} {es:List Expr} {pos:Pos}
variable {e tg:Expr} {te:W L}
end
end L2
namespace L2
open PySem PySem.Spec PyProof.Rows PySem.Builtin.Str
section
variable {X:Cx} {a tg:Expr} {es:List Expr} {pos p:Pos}
end
end L2
namespace L2
open PySem PySem.Spec PyProof.Rows
section
variable {X:Cx} {e:Expr} {pos:Pos} {t:W Fl}
end
end L2
namespace L2
open PySem PySem.Spec PyProof.Rows PySem.W
def xmkIn (K:Frag) (C fI:Addr):Bool:=(match K.lookup C with
 | some ⟨.type "type",_,.cls cd,sl⟩=>(match cd.mro,sl.toList with
  | .ref C'::bm,[_,_,_,_,some (.builtin n),_]=>C' == C && n == "ValueError.__new__" && !cd.hasDel && bm.contains (.type "ValueError") && !(bm.contains (.type "AttributeError")) && !(bm.contains (.type "NameError"))
  | _,_=>false)
 | _=>false) && findIn K (.ref C) "__init__" == some (some (.ref fI)) && typeIn K (.ref fI) == some (.type "function")
structure XMk (K:Frag) (C fI:Addr):Prop where
 ex:∃ nm q N bs bm hdct sn sub ab col dd k0 k1 k2 k3 k5,K.lookup C=some (excClassObj nm q C N bs bm hdct sn sub ab col dd k0 k1 k2 k3 k5 "ValueError.__new__")∧bm.contains (.type "ValueError")=true∧bm.contains (.type "AttributeError")=false∧bm.contains (.type "NameError")=false
 init:findIn K (.ref C) "__init__"=some (some (.ref fI))
 fn:typeIn K (.ref fI)=some (.type "function")
theorem xmk_of {K:Frag} {C fI:Addr} (h:xmkIn K C fI=true):XMk K C fI:=by
 unfold xmkIn at h
 simp only [Bool.and_eq_true,beq_iff_eq] at h
 obtain ⟨⟨h,h1⟩,h2⟩:=h
 refine ⟨?_,h1,h2⟩
 split at h
 ·
  rename_i dd cd sl ho
  split at h
  ·
   rename_i C' bm k0 k1 k2 k3 n k5 hm hs
   simp only [Bool.and_eq_true,beq_iff_eq,Bool.not_eq_true'] at h
   obtain ⟨⟨⟨⟨⟨rfl,rfl⟩,hdel⟩,e1⟩,e2⟩,e3⟩:=h
   obtain ⟨nm,bs,mro,ns,qn,hd,sn,sub,ab,col,del⟩:=cd
   dsimp only at hm hdel
   subst hm hdel
   obtain ⟨l⟩:=sl
   simp only at hs
   subst hs
   exact ⟨nm,qn,ns,bs,bm,hd,sn,sub,ab,col,dd,k0,k1,k2,k3,k5,ho,e1,e2,e3⟩
  ·
   cases h
 ·
  cases h
section
variable {prog:Program} {w:World} {A:Around} {E:Value→Shared→Prop} {h:Heap} {g:Array GenState} {d:Drawn} {t:Nat} {os:OsState}
variable {nm q:Str} {C N:Addr} {bs bm:List Value} {hdct:Bool} {sn:List Str} {sub:List Value} {ab:Bool} {col:Option Bool} {dd:Option Addr} {k0 k1 k2 k3 k5:Option Value}
theorem xnew_check {M:Model} {rest:List Value} {Q:Unit→Shared→Prop} (hC:h.get? C=some (excClassObj nm q C N bs bm hdct sn sub ab col dd k0 k1 k2 k3 k5 "ValueError.__new__")) (hv:bm.contains (.type "ValueError")=true)
  (hq:Q () ⟨h,g,d,t,os⟩):wpAny M A (checkBuiltinCall "ValueError.__new__" ⟨.ref C::rest,[]⟩) Q E ⟨h,g,d,t,os⟩:=by
 have FB:=F.excBase_ValueError
 have hb:(Value.ref C::bm).contains (.type "ValueError")=true:=by rw [List.contains_cons,hv,Bool.or_true]
 have hst:=FB.noStar
 simp only [checkBuiltinCall,FB.newKind,FB.newSplit,FB.newRow]
 repeat (first | refine wpAny_loadPart_at hC ?_ | (refine wpAny_isSubtype_exc hC ?_; rw [hb]) | refine wpAny_staticBase_exc hC ?_ | refine wpAny_madeBy_exc hC ?_ | simp only [bne_self_eq_false,Bool.false_eq_true,if_false] | wp_step)
 exact hq
theorem xnew_run {rest:List Value} {R:Result→Shared→Prop} (hC:h.get? C=some (excClassObj nm q C N bs bm hdct sn sub ab col dd k0 k1 k2 k3 k5 "ValueError.__new__")) (hv:bm.contains (.type "ValueError")=true) (ha:bm.contains (.type "AttributeError")=false) (hn:bm.contains (.type "NameError")=false)
  (hz:rest.length≤sizeLine) (hq:R (.ok (.ret (.ref (h.objs.size+1)))) ⟨(h.push { cls:=.type "tuple",data:=.seq rest.toArray }).push { cls:=.ref C,data:=.fields #[.ref h.objs.size,.none,.none,.none,.bool false,.none] },g,d,t,os⟩) :
  codeAny (model prog w) A (.builtin "ValueError.__new__" ⟨.ref C::rest,[]⟩) R ⟨h,g,d,t,os⟩:=by
 have FB:=F.excBase_ValueError
 have hends:=FB.ends
 have c1:(Value.ref C::bm).contains (.type "ValueError")=true:=by rw [List.contains_cons,hv,Bool.or_true]
 have c2:(Value.ref C::bm).contains (.type "AttributeError")=false:=by rw [List.contains_cons,ha]; rfl
 have c3:(Value.ref C::bm).contains (.type "NameError")=false:=by rw [List.contains_cons,hn]; rfl
 refine codeAny_builtinAt FB.entry ?_
 unfold Builtin.«BaseException.__new__»
 refine PySem.wpAt_bind ?_
 show PySem.wpAt _ _ _ (stack >>= _) _ _ _
 refine PySem.wpAt_bind (PySem.wpAt_stack fun p below=>PySem.wpAt_of_wpAny ?_)
 wp_walk
 refine PySem.wpAt_of_wpAny ?_
 rw [FB.owner]
 repeat (first | with_reducible refine wpAny_madeHere_exc FB.canon hC ?_ | with_reducible refine wpAny_loadPart_at hC ?_ | (with_reducible refine wpAny_isSubtype_exc hC ?_; first | rw [c1] | rw [c2] | rw [c3]) | wp_step)
 show R _ _
 rw [Heap.size_push]
 exact hq
theorem xcall {K:Frag} {fI:Addr} {rest:List Value} {Q:Value→Shared→Prop} (X:K.In h) (M:XMk K C fI) (hz:rest.length≤sizeLine)
  (hq:∀ h' e,Heap.MadeExcOf h h' e (.ref C) rest→h.objs.size≤e→wpAny (model prog w) (A.under (.builtin "type.__call__" ⟨.ref C::rest,[]⟩)) (call (.ref fI) (.ref e::rest)) (fun r s'=>r=.none∧Q (.ref e) s') E ⟨h',g,d,t,os⟩) :
  wpAny (model prog w) A (call (.ref C) rest) Q E ⟨h,g,d,t,os⟩:=by
 obtain ⟨nm,q,N,bs,bm,hdct,sn,sub,ab,col,dd,k0,k1,k2,k3,k5,hK,b1,b2,b3⟩:=M.ex
 have hC:=X _ _ hK
 have FB:=F.excBase_ValueError
 have f1:=tc_lookup
 have f2:=tc_bind (.ref C)
 have hT:(⟨h,g,d,t,os⟩:Shared).TypeIs (.ref C) "type":=⟨_,hC,rfl⟩
 refine wpAny_call (codeAny_of_tree ?_)
 show wpAny _ _ (callAny (.ref C) _) _ _ _
 repeat (any_goals (first | assumption | with_reducible refine wpAny_loadPart_at hC ?_ | wp_step))
 refine ⟨rfl,?_⟩
 refine codeAny_call_builtin_at (Code.quiet_builtin _ (by decide +kernel)) entry_typeCall (wpAny_check_type_call_sub hC ?_)
 repeat (first | with_reducible refine wpAny_loadPart_at hC ?_ | with_reducible refine wpAny_madeBy_exc hC ?_ | wp_step)
 refine codeAny_call_builtin_code (Code.quiet_builtin _ FB.quiet) (xnew_check hC b1 ?_)
 refine xnew_run hC b1 b2 b3 hz ?_
 have kp:∀ b o,h.get? b=some o→((h.push { cls:=.type "tuple",data:=.seq rest.toArray }).push { cls:=.ref C,data:=.fields #[.ref h.objs.size,.none,.none,.none,.bool false,.none] }).get? b=some o:=fun b o e=>Heap.get?_push_of_some _ (Heap.get?_push_of_some _ e)
 have hC1:=kp _ _ hC
 have X1:K.In _:=X.keeps kp
 have hg:((h.push { cls:=.type "tuple",data:=.seq rest.toArray }).push { cls:=.ref C,data:=.fields #[.ref h.objs.size,.none,.none,.none,.bool false,.none] }).get? (h.objs.size+1)=some { cls:=.ref C,data:=.fields #[.ref h.objs.size,.none,.none,.none,.bool false,.none] }:=by heap_get
 have cC:(Value.ref C::bm).contains (.ref C)=true:=by simp
 show wpAny _ _ _ _ _ ⟨(h.push { cls:=.type "tuple",data:=.seq rest.toArray }).push { cls:=.ref C,data:=.fields #[.ref h.objs.size,.none,.none,.none,.bool false,.none] },g,d,t,os⟩
 unfold isInstance
 repeat (first | with_reducible refine wpAny_loadPart_at hg ?_ | (with_reducible refine wpAny_isSubtype_exc hC1 ?_; rw [cC]) | wp_step)
 have L1:=looks_findIn (M:=model prog w) X1 M.init
 have L2:=bind_fn (M:=model prog w) X1 (.ref (h.objs.size+1)) M.fn
 show wpAny _ _ (typeLookup (.ref C) _) _ _ _
 refine L1.at (wpAny_holding (wpAny_bind (L2.at ?_)))
 refine wpAny_bind (wpAny_mono (hq _ (h.objs.size+1) ⟨kp,Heap.get?_none_of_le (Nat.le_succ _),h.objs.size,hg,Heap.get?_none_of_le (Nat.le_refl _),Heap.get?_push_of_some _ (Heap.get?_push_at rfl rfl)⟩ (Nat.le_succ _)) (fun r s' hr=>?_) fun _ _ x=>x)
 obtain ⟨rfl,hQ⟩:=hr
 wp_walk
 exact hQ
end
end L2
namespace L2
open PySem PySem.Spec PyProof.Rows PySem.W
section
variable {prog:Program} {w:World} {A:Around} {E:Value→Shared→Prop} {s:Shared} {K:Frag} {c:Str} {C L:Addr} {cd:ClassData} {env:Env}
structure Fly (h:Heap) (e:Addr) (cls:Value) (dx T:Option Addr):Prop where
 ex:∃ vs sl,h.get? e=some ⟨cls,dx,.fields vs,sl⟩∧1 < vs.size∧(match T with
  | none=>vs[1]?=some .none
  | some t=>vs[1]?=some (.ref t)∧t≠e∧∃ ot ts,h.get? t=some ot∧ot.data=.fields ts∧ts[3]?=some .none)
theorem xraise {x:Sem Value} {Q:Flow→Shared→Prop} (S:XStd K c C L cd) (hh:A.handled=none)
  (h:wpAny (model prog w) A x (fun v s1=>∃ e dx,v=.ref e∧K.In s1.heap∧Fly s1.heap e (.ref C) dx none∧E (.ref e) s1) E s):wpAny (model prog w) A (raiseStmt env (some x) none) Q E s:=by
 unfold raiseStmt
 refine wpAny_bind (wpAny_mono h (fun v s1 h1=>?_) fun _ _ z=>z)
 obtain ⟨e,dx,rfl,X,⟨vs,sl,he,hz,h1⟩,hE⟩:=h1
 obtain ⟨hp,g,d,tk,os⟩:=s1
 have h1:vs[1]?=some .none:=h1
 have he:hp.get? e=some ⟨.ref C,dx,.fields vs,sl⟩:=he
 obtain ⟨oc,odc,slc,hK⟩:=clsIn_obj S.cls
 have hC:hp.get? C=some ⟨oc,odc,.cls cd,slc⟩:=X _ _ hK
 have hoc:oc=.type "type":=by
  have z:(K.lookup C).map (·.cls)=some (.type "type"):=S.ty
  rw [hK] at z
  exact Option.some.inj z
 subst hoc
 have Lb:=S.isT (M:=model prog w) X "BaseException"
 have eb:(["ValueError","Exception","BaseException","object"]:List String).contains "BaseException"=true:=by decide
 rw [eb] at Lb
 repeat (first | with_reducible refine wpAny_loadPart_at he ?_ | with_reducible refine wpAny_loadPart_at hC ?_ | with_reducible refine Lb.at ?_ | with_reducible refine wpAny_field he rfl h1 ?_ | wp_step)
 exact wpAny_raiseNew_none hh hE
theorem xnote {base:Heap} {outer:List Env} {F e:Addr} {cls:Value} {dx T:Option Addr} {Q:Unit→Shared→Prop}
  (hfr:A.frames=some (env::outer)) (hl:s.heap.FunFrames base (env::outer)) (hf:env.frame=some F) (fl:Fly s.heap e cls dx T)
  (hq:∀ h' T',Fly h' e cls dx (some T')→s.heap.objs.size≤T'→(∀ b o,b≠e→some b≠T→b∉frs (env::outer)→s.heap.get? b=some o→h'.get? b=some o) →
   (∀ b o,b≠e→some b≠T→s.heap.get? b=some o→∃ sl,h'.get? b=some { o with slots:=sl })→Q () { s with heap:=h' }) :
  wpAny (model prog w) A (noteFrame (.ref e) env) (fun _ s2=>wpAny (model prog w) A (setFlight (.ref e) none) Q E s2) E s:=by
 obtain ⟨vs,sl,he,hz,hT⟩:=fl
 have nof:∀ b o vs',s.heap.get? b=some o→o.data=.fields vs'→b∉frs (env::outer):=fun b o vs' hb hd hm=>by
  obtain ⟨_,o',ho',hn'⟩:=hl.mem hm
  rw [hb] at ho'; cases ho'
  exact hn' _ hd
 have entry:∀ (s1:Shared) (vs1:Array Value) (head:Value) (hn:Bool),s1.heap.get? e=some ⟨cls,dx,.fields vs1,sl⟩→1 < vs1.size→s1.heap.FunFrames base (env::outer) →
   (∀ b o,b≠e→some b≠T→s.heap.get? b=some o→s1.heap.get? b=some o)→s1.heap.objs.size=s.heap.objs.size→s1={ s with heap:=s1.heap } →
   wpAny (model prog w) A (do let a ← frameOf env; let pl ← entryPlaceOf F hn; let b ← EntryCells.newEntry head a .none (rawInt F) .none pl; setField (.ref e) 1 b) (fun _ s2=>wpAny (model prog w) A (setFlight (.ref e) none) Q E s2) E s1:=by
  intro s1 vs1 head hn he1 hz1 hl1 kp sz es
  have nof1:∀ b o vs',s1.heap.get? b=some o→o.data=.fields vs'→b∉frs (env::outer):=fun b o vs' hb hd hm=>by
   obtain ⟨_,o',ho',hn'⟩:=hl1.mem hm
   rw [hb] at ho'; cases ho'
   exact hn' _ hd
  refine wpAny_bind (wpAny_frameOf_fun hfr hl1 hf fun h1 hs1=>?_)
  refine wpAny_bind (wpAny_entryPlaceOf fun pl hpl=>?_)
  unfold EntryCells.newEntry newFields
  refine wpAny_bind (wpAny_newObj_type ?_ (hpl.sizeOk5 _ _ _ _ _))
  generalize hob:({ cls:=.type "traceback",dict:=none,data:=.fields ([head,Value.ref F,.none,rawInt F,.none]++(if pl.isEmpty then List.replicate 6 Value.none else pl)).toArray }:Obj)=ob
  have hod:∃ ts,ob.data=.fields ts∧3 < ts.size:=by
   subst hob
   exact ⟨_,rfl,by simp only [List.size_toArray,List.length_append,List.length_cons,List.length_nil]; omega⟩
  obtain ⟨ts,hod,hts⟩:=hod
  have he2:h1.get? e=some ⟨cls,dx,.fields vs1,sl⟩:=(hs1.2.1 e (nof1 _ _ _ he1 rfl)).trans he1
  have he3:=Heap.get?_push_of_some (h:=h1) ob he2
  have ne:h1.objs.size≠e:=Nat.ne_of_gt (Heap.lt_size he2)
  refine wpAny_setField he3 rfl hz1 ?_
  have he4:=Heap.get?_update_self (Obj.mapFields (·.setIfInBounds 1 (Value.ref h1.objs.size))) he3 rfl
  have hT4:=(Heap.get?_update_other (h1.push ob) (Obj.mapFields (·.setIfInBounds 1 (Value.ref h1.objs.size))) (Ne.symm ne)).trans (Heap.get?_push_size h1 (by obtain ⟨_,_,dt,_⟩:=ob; cases hod; rfl))
  unfold setFlight
  refine wpAny_bind (wpAny_field he4 rfl (x:=.ref h1.objs.size) (by simp [hz1]) ?_)
  rw [if_pos (show (Value.ref h1.objs.size != Value.none)=true from by simp)]
  refine wpAny_setField hT4 hod hts ?_
  rw [es]
  have keep:∀ b o,b≠e→h1.get? b=some o→(((h1.push ob).update e (Obj.mapFields (·.setIfInBounds 1 (Value.ref h1.objs.size)))).update h1.objs.size (Obj.mapFields (·.setIfInBounds 3 ((none:Option Addr).elim Value.none fun f=>rawInt f)))).get? b=some o:=fun b o hb e1=>by
   rw [Heap.get?_update_other _ _ (Nat.ne_of_gt (Heap.lt_size e1)),Heap.get?_update_other _ _ (Ne.symm hb)]
   exact Heap.get?_push_of_some _ e1
  refine hq _ h1.objs.size ⟨vs1.setIfInBounds 1 (.ref h1.objs.size),sl,?_,by simpa using hz1,by simp [hz1],ne,_,_,Heap.get?_update_self _ hT4 (Obj.isFreed_of_fields (Obj.data_mapFields hod _)),Obj.data_mapFields hod _,by simp [hts]⟩ ?_ (fun b o hb hbT hbf e1=>?_) fun b o hb hbT e1=>?_
  ·
   rw [Heap.get?_update_other _ _ ne]; exact he4
  ·
   rw [hs1.1,sz]; exact Nat.le_refl _
  ·
   exact keep b o hb ((hs1.2.1 b hbf).trans (kp b o hb hbT e1))
  ·
   obtain ⟨sl',e2⟩:=hs1.2.2 b o (kp b o hb hbT e1)
   exact ⟨sl',keep b _ hb e2⟩
 unfold noteFrame
 simp only [hf]
 cases T with
 | none =>
  refine wpAny_bind (wpAny_field he rfl hT ?_)
  rw [if_neg (by decide)]
  exact entry s vs .none _ he hz hl (fun _ _ _ _ e1=>e1) rfl rfl
 | some t =>
  obtain ⟨h1,hte,ot,ts,ht,hdt,h3⟩:=hT
  refine wpAny_bind (wpAny_field he rfl h1 ?_)
  rw [if_pos (show (Value.ref t != Value.none)=true from by simp)]
  refine wpAny_bind (wpAny_field ht hdt h3 ?_)
  rw [if_neg (show ¬ ((Value.none == rawInt F)=true) from by simp [rawInt])]
  refine wpAny_bind (wpAny_setField ht hdt (Array.getElem?_eq_some_iff.mp h3).1 ?_)
  have oth:∀ b,b≠t→(s.heap.update t (Obj.mapFields (·.setIfInBounds 3 Value.none))).get? b=s.heap.get? b:=fun b hb=>Heap.get?_update_other _ _ (Ne.symm hb)
  refine entry _ vs (.ref t) _ ((oth e (Ne.symm hte)).trans he) hz (hl.of_keeps fun b o hb hnf=>⟨o,(oth b fun q=>?_).trans hb,rfl⟩) (fun b o hb hbT e1=>(oth b fun q=>hbT (by rw [q])).trans e1) (by simp) rfl
  rw [q,ht] at hb; cases hb; exact hnf ts hdt
end
end L2
namespace L2
open PySem PySem.Spec PyProof.Rows PySem.W
def del (H:Hp) (e:Addr):Hp:=fun b=>if b=e then none else H b
theorem del_ne {H:Hp} {e b:Addr} (h:b≠e):del H e b=H b:=by unfold del; rw [if_neg h]
theorem del_self {H:Hp} {e:Addr}:del H e e=none:=by unfold del; rw [if_pos rfl]
theorem del_none {H:Hp} {e b:Addr} (h:H b=none):del H e b=none:=by unfold del; split; rfl; exact h
section
variable {X:Cx} {pins:List (Addr×Obj)} {σ:St} {H:Hp} {s:Shared}
theorem Inv.forget {e:Addr} {φ:Heap→Prop} (I:Inv X pins σ H s) (h:H e=some (.ext φ)):Inv X pins σ (del H e) s:=by
 have ne:∀ b o,H b=some o→(∀ ψ,o≠.ext ψ)→b≠e:=fun b o q n z=>by subst z; rw [h] at q; cases q; exact n _ rfl
 refine ⟨I.ok,I.os,I.bare,⟨I.base.keep,I.base.slot,fun b o e1 n hx=>del_none (I.base.free b o e1 n hx),I.base.there,fun b xs q=>?_,fun b o u q=>?_,fun b ps q=>?_⟩,I.loc,I.cell,del_none I.free,fun x c q=>(I.freeC x c q).imp del_none fun ⟨hf,o,z⟩=>⟨hf,o,by rw [del_ne (ne c _ z fun _ q=>nomatch q)]; exact z⟩,fun p hp=>?_,fun b u q=>?_,I.len⟩
 ·
  have z:=I.base.tups b xs q
  rw [del_ne (ne b _ z fun _ q=>nomatch q)]; exact z
 ·
  have z:=I.base.frzs b o u q
  rw [del_ne (ne b _ z fun _ q=>nomatch q)]; exact z
 ·
  have z:=I.base.tbls b ps q
  rw [del_ne (ne b _ z fun _ q=>nomatch q)]; exact z
 ·
  obtain ⟨a1,a2,a3⟩:=I.pin p hp
  exact ⟨a1,del_none a2,a3⟩
 ·
  have hb:b≠e:=fun z=>by subst z; rw [del_self] at q; cases q
  rw [del_ne hb] at q
  exact (I.hok b u q).stay (fun c v _ z=>z) (fun c z=>by rw [del_ne (ne c _ z fun _ q=>nomatch q)]; exact z) (fun c xs z=>by rw [del_ne (ne c _ z fun _ q=>nomatch q)]; exact z) fun c ob _ _ z=>by rw [del_ne (ne c _ z fun _ q=>nomatch q)]; exact z
end
def vis (o:HO):Prop:=Pers o∧noIns o
open Classical in
noncomputable def hidH (H:Hp):Hp:=fun b=>match H b with
 | some o=>if vis o then some o else none
 | none=>none
theorem hidH_none {H:Hp} {b:Addr} (h:H b=none):hidH H b=none:=by unfold hidH; rw [h]
theorem hidH_vis {H:Hp} {b:Addr} {o:HO} (h:H b=some o) (v:vis o):hidH H b=some o:=by unfold hidH; rw [h]; exact if_pos v
theorem hidH_is {H:Hp} {b:Addr} {o:HO} (h:hidH H b=some o):H b=some o∧vis o:=by
 unfold hidH at h
 split at h
 ·
  rename_i u e
  split at h
  ·
   rename_i v; cases h; exact ⟨e,v⟩
  ·
   cases h
 ·
  cases h
theorem hidH_no {H:Hp} {b:Addr} {o:HO} (h:H b=some o) (v:¬ vis o):hidH H b=none:=by unfold hidH; rw [h]; exact if_neg v
theorem ObjOk.stayN {P:Program} {w:World} {H H':Hp} {h h':Heap} {a:Addr}:∀ {o:HO},noIns o→ObjOk P w H h a o→(∀ u,h.get? a=some u→h'.get? a=some u)→(∀ b xs,H b=some (.tup xs)→H' b=some (.tup xs))→(∀ b o q,CodeOb o q→H b=some (.frz o (.own b))→H' b=some (.frz o (.own b)))→ObjOk P w H' h' a o
 | .lst xs,_,x,k,_,_=>by obtain ⟨z,its,n,r,e⟩:=x; exact ⟨z,its,n,r,k _ e⟩
 | .tup xs,_,x,k,_,_=>by obtain ⟨z,its,r,ob,e,c⟩:=x; exact ⟨z,its,r,ob,k _ e,c⟩
 | .dK kvs,_,x,k,_,_=>by obtain ⟨z,y,vs,r,ob,es,ep,e,c⟩:=x; exact ⟨z,y,vs,r,ob,es,ep,k _ e,c⟩
 | .dT kvs,_,x,k,ht,_=>by
  obtain ⟨z,y,xs,r,ob,es,ep,e,c⟩:=x
  exact ⟨z,y,xs,Paired.mapP r fun p q z=>⟨z.1,ht _ _ z.2.1,z.2.2⟩,ob,es,ep,k _ e,c⟩
 | .set S n,_,x,k,_,_=>by obtain ⟨ob,es,ep,t,e,c⟩:=x; exact ⟨ob,es,ep,t,k _ e,c⟩
 | .ins C dx fs,n,_,_,_,_=>n.elim
 | .own y,_,x,k,_,_=>by obtain ⟨ob,e⟩:=x; exact ⟨ob,k _ e⟩
 | .xd fs,_,x,k,_,_=>by obtain ⟨mA,⟨od,es,ep,e,c⟩,r⟩:=x; exact ⟨mA,⟨od,es,ep,k _ e,c⟩,r⟩
 | .rng lo hi,_,x,k,_,_=>by obtain ⟨t,u,v,e⟩:=x; exact ⟨t,u,v,k _ e⟩
 | .frz ob u,n,x,k,ht,hf=>by obtain ⟨e,q⟩:=x; exact ⟨k _ e,ObjOk.stayN (o:=u) n q k ht hf⟩
 | .tbl t,_,x,k,_,hf=>by
  obtain ⟨ps,e,tr,m⟩:=x
  exact ⟨ps,k _ e,tr,fun pos cv z=>let ⟨c',oc,a1,a2,a3⟩:=m pos cv z; ⟨c',oc,a1,hf _ _ _ a3 a2,a3⟩⟩
 | .met f y,_,x,k,_,_=>by
  have e:h.get? a=some (PySem.W.methodObj (.ref f) (.ref y)):=x
  exact (k _ e:h'.get? a=some (PySem.W.methodObj (.ref f) (.ref y)))
 | .ext φ,_,x,k,_,_=>by obtain ⟨p,⟨o,e⟩,st⟩:=x; exact ⟨st _ _ p k,⟨o,k _ e⟩,st⟩
theorem vis_tup (xs:List V):vis (.tup xs):=⟨True.intro,True.intro⟩
theorem vis_tbl (q:Str):vis (.tbl q):=⟨True.intro,True.intro⟩
theorem vis_frzo (o:Obj) (y:Addr):vis (.frz o (.own y)):=⟨True.intro,True.intro⟩
section
variable {X:Cx} {pins:List (Addr×Obj)} {σ:St} {H H':Hp} {s s':Shared}
theorem Inv.hide (I:Inv X pins σ H s):Env0 X.prog X.w X.K X.mg X.base X.A X.stack s (hidH H):=by
 have e0:=I.env0
 refine ⟨e0.frames,e0.mod,fun b o e=>⟨(e0.bs b o e).1,hidH_none (e0.bs b o e).2⟩,e0.bsz,e0.funs,fun b hb=>hidH_none (e0.frf b hb),fun b o e=>?_,e0.bare,fun x hx c P e=>hidH_vis (e0.tbs x hx c P e) (vis_tbl _)⟩
 obtain ⟨e1,v⟩:=hidH_is e
 exact ObjOk.stayN v.2 (e0.hok b o e1) (fun _ z=>z) (fun c xs z=>hidH_vis z (vis_tup xs)) fun c ob _ _ z=>hidH_vis z (vis_frzo ob c)
open Classical in
noncomputable def mrg (H H':Hp):Hp:=fun b=>match H' b with
 | some o=>some o
 | none=>H b
theorem mrg_some {b:Addr} {o:HO} (h:H' b=some o):mrg H H' b=some o:=by unfold mrg; rw [h]
theorem mrg_none {b:Addr} (h:H' b=none):mrg H H' b=H b:=by unfold mrg; rw [h]
theorem Inv.unhide (I:Inv X pins σ H s) (ho:s'.os=s.os) (hg:AllBare s'.gens) (u:Un (frs X.stack) [] (hidH H) H' s.heap s'.heap) (hok:HOk X.prog X.w H' s'.heap) :
  Inv X pins σ (mrg H H') s'∧(∀ b o,H b=some o→mrg H H' b=some o)∧(∀ b o,H' b=some o→hidH H b=none→H b=none):=by
 have gone:∀ b o,H b=some o→¬ vis o→hidH H b=none∧H' b=none:=fun b o e v=>by
  have z:=hidH_no e v
  obtain ⟨ob,hb⟩:∃ ob,s.heap.get? b=some ob:=by
   cases q:s.heap.get? b with
   | some ob=>exact ⟨ob,rfl⟩
   | none =>
    exfalso
    cases o with
    | lst xs=>obtain ⟨_,_,_,_,e⟩:=I.hok b _ e; rw [q] at e; cases e
    | tup xs=>exact v (vis_tup xs)
    | dK kvs=>obtain ⟨_,_,_,_,o,_,_,e,_⟩:=I.hok b _ e; rw [q] at e; cases e
    | dT kvs=>obtain ⟨_,_,_,_,o,_,_,e,_⟩:=I.hok b _ e; rw [q] at e; cases e
    | set S n=>obtain ⟨o,_,_,_,e,_⟩:=I.hok b _ e; rw [q] at e; cases e
    | ins C dx fs=>obtain ⟨_,_,_,e,_⟩:=I.hok b _ e; rw [q] at e; cases e
    | own y=>obtain ⟨_,e⟩:=I.hok b _ e; rw [q] at e; cases e
    | xd fs=>obtain ⟨_,⟨_,_,_,e,_⟩,_⟩:=I.hok b _ e; rw [q] at e; cases e
    | rng lo hi=>obtain ⟨_,_,_,e⟩:=I.hok b _ e; rw [q] at e; cases e
    | frz ob u=>obtain ⟨e,_⟩:=I.hok b _ e; rw [q] at e; cases e
    | tbl t=>exact v (vis_tbl t)
    | met f y=>have e:=(show s.heap.get? b=some _ from I.hok b _ e); rw [q] at e; cases e
    | ext φ=>obtain ⟨_,⟨_,e⟩,_⟩:=I.hok b _ e; rw [q] at e; cases e
  exact ⟨z,u.free b ob hb z (by simp)⟩
 have ext:∀ b o,H b=some o→mrg H H' b=some o:=fun b o e=>by
  by_cases v:vis o
  ·
   have z:=hidH_vis e v
   cases o with
   | tup xs=>exact mrg_some (u.tups b xs z)
   | frz ob w=>exact mrg_some (u.frzs b ob w z)
   | tbl t=>exact mrg_some (u.tbls b t z)
   | _=>exact v.1.elim
  ·
   rw [mrg_none (gone b o e v).2]; exact e
 have back:∀ b o,H' b=some o→hidH H b=none→H b=none:=fun b o e z=>by
  cases q:H b with
  | none=>rfl
  | some o' =>
   by_cases v:vis o'
   ·
    rw [hidH_vis q v] at z; cases z
   ·
    rw [(gone b o' q v).2] at e; cases e
 have hok2:HOk X.prog X.w (mrg H H') s'.heap:=fun b o e=>by
  unfold mrg at e
  split at e
  ·
   rename_i o' q
   cases e
   exact (hok b _ q).stay (fun c w _ z=>z) (fun c z=>mrg_some z) (fun c xs z=>mrg_some z) fun c ob _ _ z=>mrg_some z
  ·
   rename_i q
   have nv:¬ vis o:=fun v=>by
    have z:=hidH_vis e v
    cases o with
    | tup xs=>rw [u.tups b xs z] at q; cases q
    | frz ob w=>rw [u.frzs b ob w z] at q; cases q
    | tbl t=>rw [u.tbls b t z] at q; cases q
    | _=>exact v.1.elim
   have keepT:∀ c o',H c=some o'→¬ vis o'→∀ w,s.heap.get? c=some w→s'.heap.get? c=some w:=fun c o' e' v' w hw=>by
    refine u.keep c w hw (gone c o' e' v').1 (fun hm=>?_) (by simp)
    have:=I.stkFree c hm
    rw [e'] at this; cases this
   refine (I.hok b o e).stay (fun c w hc z=>?_) (fun c z=>ext c _ z) (fun c xs z=>ext c _ z) fun c ob _ _ z=>ext c _ z
   rcases hc with rfl | hc
   ·
    exact keepT c o e nv w z
   ·
    exact keepT c _ hc (fun v=>v.1) w z
 refine ⟨I.call' (ch:=[]) ho ⟨fun b o e n hf hx=>u.keep b o e (hidH_none n) hf hx,fun b o e n hf hx=>u.slot b o e (hidH_none n) hf hx,fun b o e n hx=>?_,u.there,fun b xs e=>ext b _ e,fun b o w e=>ext b _ e,fun b ps e=>ext b _ e⟩ hok2 hg (fun b z=>absurd z (by simp)),ext,back⟩
 rw [mrg_none (u.free b o e (hidH_none n) hx)]; exact n
end
section
variable {K:Frag} {Pr H H':Hp} {σ:St} {ρ:Ev}
theorem REnv.exten (E:REnv K Pr H σ ρ) (h:∀ b o,H b=some o→H' b=some o):REnv K Pr H' σ ρ :=
 ⟨fun b o e=>h b o (E.sub b o e),E.nd,E.off,Paired.impMem E.sl fun l hl s q=>q.pres (fun b u _ e=>h b u e) l fun a e=>by
  obtain ⟨vs,e,_⟩:=E.at_own (mem_owns.mpr ⟨l,hl,e⟩)
  rw [h _ _ e,e]⟩
end
mutual
theorem Rep.hid {K:Frag} {H:Hp}:∀ {v:V} {d:D},Rep K H v d→Rep K (hidH H) v d
 | _,_,.non=>.non
 | _,_,.bl b=>.bl b
 | _,_,.int i=>.int i
 | _,_,.str x=>.str x
 | _,_,.tup h r=>.tup (by
   rcases h with (h | ⟨o,h⟩) | h
   ·
    exact .inl (.inl (hidH_vis h (vis_tup _)))
   ·
    exact .inl (.inr ⟨o,hidH_vis h ⟨True.intro,True.intro⟩⟩)
   ·
    exact .inr h) (Reps.hid r)
 | _,_,.lst h r=>.lst (by
   rcases h with ⟨o,h⟩ | h
   ·
    exact .inl ⟨o,hidH_vis h ⟨True.intro,True.intro⟩⟩
   ·
    exact .inr h) (Reps.hid r)
 | _,_,.dct h=>.dct (hidH_vis h ⟨True.intro,True.intro⟩)
 | _,_,.exc h hv hc hn hs hq hf r=>.exc (hidH_vis h ⟨True.intro,hv⟩) hv hc hn hs hq (by
   rcases hf with hf | ⟨d,od,e,h,l⟩
   ·
    exact .inl hf
   ·
    exact .inr ⟨d,od,e,hidH_vis h ⟨True.intro,True.intro⟩,l⟩) (Reps.hid r)
 | _,_,.fn hl hf hq hc hz hd hv hm r=>.fn hl (hidH_vis hf (vis_frzo _ _)) (hidH_vis hq (vis_frzo _ _)) hc (hidH_vis hz (vis_frzo _ _)) hd hv hm (Rep.hid r)
theorem Reps.hid {K:Frag} {H:Hp}:∀ {vs:List V} {ds:List D},Reps K H vs ds→Reps K (hidH H) vs ds
 | _,_,.nil=>.nil
 | _,_,.cons h t=>.cons (Rep.hid h) (Reps.hid t)
end
end L2
namespace L2
open PySem PySem.Spec PyProof.Rows PySem.W
theorem vi_k1:typeOf (.type "ValueError")=pure (.type "type"):=kitMeta_of (by decide +kernel)
theorem vi_k2:Manifest.isStub "ValueError"=false:=by decide +kernel
theorem vi_k3:handedIn (.builtin "ValueError.__init__")=true:=by decide +kernel
theorem vinit_cls (K:Frag):findCls K (.type "ValueError") (.type "type") "__init__"=some (.val (.builtin "ValueError.__init__")):=by kernel_rfl
end L2
namespace L2
open PySem PySem.Spec PyProof.Rows PySem.W
theorem Fly.at {h h':Heap} {e:Addr} {cls:Value} {dx:Option Addr} (f:Fly h e cls dx none) (k:∀ o,h.get? e=some o→h'.get? e=some o):Fly h' e cls dx none:=by
 obtain ⟨vs,sl,he,hz,h1⟩:=f
 exact ⟨vs,sl,k _ he,hz,h1⟩
def XO (e:Addr) (cls:Value) (dx:Option Addr):HO:=.ext fun h=>Fly h e cls dx none
def XD (d:Addr) (fs:List (Str×V)):HO:=.ext fun h=>∃ mA,h.Ns1 d mA∧(∀ f,RelO (fs.lookup f) (mA f))∧PySem.Within mA (fs.map (·.1))
theorem XO.ok {P:Program} {w:World} {H:Hp} {h:Heap} {e:Addr} {cls:Value} {dx:Option Addr} (f:Fly h e cls dx none):ObjOk P w H h e (XO e cls dx):=by
 obtain ⟨vs,sl,he,hz,h1⟩:=f
 exact ⟨⟨vs,sl,he,hz,h1⟩,⟨_,he⟩,fun h1 h2 p k=>p.at k⟩
theorem XD.ok {P:Program} {w:World} {H:Hp} {h:Heap} {d:Addr} {fs:List (Str×V)} {mA:Str→Option Value} (n:h.Ns1 d mA) (r:∀ f,RelO (fs.lookup f) (mA f)) (wi:PySem.Within mA (fs.map (·.1))):ObjOk P w H h d (XD d fs) :=
 ⟨⟨mA,n,r,wi⟩,let ⟨o,_,_,e,_⟩:=n; ⟨o,e⟩,fun h1 h2 ⟨mA,n,r⟩ k=>⟨mA,n.at k,r⟩⟩
theorem upd_id {H:Hp} {a:Addr} {o:HO} (h:H a=some o):upd H a o=H:=by
 funext b; unfold upd; split
 ·
  rename_i e; rw [e,h]
 ·
  rfl
section
variable {X:Cx} {pins:List (Addr×Obj)} {σ:St} {H:Hp} {s:Shared}
theorem Inv.xo {e:Addr} {cls:Value} {dx:Option Addr} (I:Inv X pins σ H s) (h:H e=some (XO e cls dx)):Fly s.heap e cls dx none:=(I.hok e _ h).1
theorem Inv.xd {d:Addr} {fs:List (Str×V)} (I:Inv X pins σ H s) (h:H d=some (XD d fs)):∃ mA,s.heap.Ns1 d mA∧(∀ f,RelO (fs.lookup f) (mA f))∧PySem.Within mA (fs.map (·.1)):=(I.hok d _ h).1
theorem Fly.inst {h:Heap} {e C:Addr} {dx T:Option Addr} (f:Fly h e (.ref C) dx T) (hd:∀ d,dx=some d→∃ o,h.get? d=some o):∃ vs sl od,InstAt h e ⟨.ref C,dx,.fields vs,sl⟩ C od∧1 < vs.size:=by
 obtain ⟨vs,sl,he,hz,_⟩:=f
 cases dx with
 | none=>exact ⟨vs,sl,none,⟨he,rfl,rfl,trivial⟩,hz⟩
 | some d =>
  obtain ⟨o,ho⟩:=hd d rfl
  exact ⟨vs,sl,some o,⟨he,rfl,rfl,ho⟩,hz⟩
end
section
variable {X:Cx} {a b:Expr} {p1 p2 pos:Pos} {t:TA}
def tVinit (K:Frag) (t:TA):TE:=fun σ H Q=>t σ H fun vs H1=>∃ e tx c C L cd,vs=[.ref e,tx]∧H1 e=some (XO e (.ref C) none)∧XStd K c C L cd∧Q .non H1
theorem pe_vinit {pl:Sem Bool} (hg:Gl X "ValueError") (hm:X.mg "ValueError"=none) (ha:PA X [a,b] t) (hs:starEach [a,b] X.env=(false,eval a X.env)::starEach [b] X.env:=by rfl) (hpl:(backTo pos (starEach [b] X.env)).any (·.1)=false:=by rfl)
  (ht:eval (.Call (.Attribute (.Name "ValueError" p1) "__init__" p2) [a,b] [] pos) X.env=(do
   let ov ← eval (.Name "ValueError" p1) X.env
   standAt p2.atName
   let (f,first) ← holding [ov] (getMethod ov "__init__" pl)
   callWith pos f first (backTo pos (starEach [a,b] X.env)) (backToKw pos (keywordEach [] X.env))):=by rfl) :
  PE X (.Call (.Attribute (.Name "ValueError" p1) "__init__" p2) [a,b] [] pos) (tVinit X.K t):=by
 intro pins s σ H Q I h
 refine methodCall_KW (ld_blt I hg hm (show bootBuiltins "ValueError"=some (.type "ValueError") by decide +kernel) ?_) ht
 obtain ⟨m,F⟩:=I.fr
 have k4:=vinit_cls X.K
 refine @method_type _ _ _ _ _ X.K _ _ _ _ _ _ _ _ F I.ok.mod.kin vi_k1 vi_k2 k4 vi_k3 ?_
 have I1:=I.tok (s.toks+1)
 have hA:=ha pos pins _ σ H _ I1 h
 rw [hs] at hA ⊢
 refine Calls.callWith_builtin (by show (false || (backTo pos (starEach [b] X.env)).any (·.1))=false; rw [hpl] <;> rfl) (Calls.evalArgs_plain (thn hA fun us s2 ⟨vs,H2,I2,r,e,tx,c,C,L,cd,ev,he,S,q⟩=>?_))
 subst ev
 obtain ⟨u1,u2,rfl,r1,r2⟩:=vals2 r
 cases r1
 obtain ⟨vs,sl,od,Ia,hz⟩:=(I2.xo he).inst (fun d z=>nomatch z)
 refine xinit S I2.kIn Ia rfl (by omega) fun t'=>⟨.non,H2,?_,rfl,q⟩
 have hx1:=Heap.get?_push_of_some (h:=s2.heap) { cls:=.type "tuple",data:=.seq #[u2] } Ia.at_
 have z:=I2.write (x:=e) (e:=e) (o:=XO e (.ref C) none) (h':=(s2.heap.push { cls:=.type "tuple",data:=.seq #[u2] }).update e (Obj.mapFields (·.setIfInBounds 0 (.ref s2.heap.objs.size)))) (t':=t') (by rw [he]; exact True.intro) (.inl rfl) (fun b u hb e1=>(Heap.get?_update_other _ _ (Ne.symm hb)).trans (Heap.get?_push_of_some _ e1)) ⟨_,Heap.get?_update_self _ hx1 rfl⟩ (XO.ok ?_)
 ·
  rw [upd_id he] at z; exact z
 ·
  obtain ⟨vs',sl',he',hz',h1'⟩:=I2.xo he
  have e2:=Ia.at_.symm.trans he'
  cases e2
  refine ⟨vs.setIfInBounds 0 (.ref s2.heap.objs.size),sl,Heap.get?_update_self _ hx1 rfl,by simpa using hz',?_⟩
  show (vs.setIfInBounds 0 _)[1]?=some .none
  rw [Array.getElem?_setIfInBounds_ne (by decide)]; exact h1'
def spLI (K:Frag):Sp:=fun vs H Q _=>∃ e tx c C L cd,vs=[.ref e,tx]∧H e=some (XO e (.ref C) none)∧XStd K c C L cd∧Q .non H
structure XLoad (K:Frag) (mg:Str→Option Value) (L fL:Addr) (fd:FuncData) (st:Stmt):Prop where
 m:mg "LoadError"=some (.ref L)
 rd:readsIn K L (.type "type")=true
 sg:specialIn K (.ref L) "__getattribute__"=some (some (.builtin "type.__getattribute__"))
 fc:findCls K (.ref L) (.type "type") "__init__"=some (.val (.ref fL))
 f:Fun K "__init__" "LoadError.__init__" st fL fd
 b:Binds K fd ["self","text"] []
theorem pe_linit {pl:Sem Bool} {k L fL:Addr} {fd:FuncData} {st:Stmt} (T:XLoad X.K X.mg L fL fd st) (F:FnOk X.prog X.w X.K X.mg X.base CX0 k fL fd ["self","text"] (spLI X.K)) (hr:Room k X.A) (hg:Gl X "LoadError") (ha:PA X [a,b] t)
  (hs:starEach [a,b] X.env=(false,eval a X.env)::starEach [b] X.env:=by rfl) (hpl:(backTo pos (starEach [b] X.env)).any (·.1)=false:=by rfl)
  (ht:eval (.Call (.Attribute (.Name "LoadError" p1) "__init__" p2) [a,b] [] pos) X.env=(do
   let ov ← eval (.Name "LoadError" p1) X.env
   standAt p2.atName
   let (f,first) ← holding [ov] (getMethod ov "__init__" pl)
   callWith pos f first (backTo pos (starEach [a,b] X.env)) (backToKw pos (keywordEach [] X.env))):=by rfl) :
  PE X (.Call (.Attribute (.Name "LoadError" p1) "__init__" p2) [a,b] [] pos) (tVinit X.K t):=by
 intro pins s σ H Q I h
 refine methodCall_KW (ld_glob I hg T.m ?_) ht
 refine method_cls I.kIn T.sg (cls_read I.kIn T.rd T.fc (wpAny_pure ?_))
 have k3:handedIn (.ref fL)=true:=rfl
 show wpAny _ _ (handedOut (.ref fL)) _ _ _
 rw [handedOut_of k3]
 refine wpAny_pure ?_
 have I1:=I.tok (s.toks+1)
 refine callWith_K (h₀:=X.base) I.ok.mod.kin T.f.kp (thn (ha pos pins _ σ H _ I1 h) fun us s1 ⟨vs,H1,I2,r,q⟩=>⟨I2.kIn,?_⟩) hs hpl
 refine run_fn F hr T.b .nil pass0 I2 r ?_
 rw [List.append_nil]
 exact q
def sXset (K:Frag) (ta tv:TE) (f:Str):TS:=fun D σ H=>tv σ H fun y H1=>ta σ H1 fun x H2=>∃ e c C L cd,x=.ref e∧XStd K c C L cd∧findIn K (.ref C) f=some none ∧
 ((H2 e=some (XO e (.ref C) none)∧∀ d,H2 d=none→d≠e→D.nx σ (upd (upd H2 d (XD d [(f,y)])) e (XO e (.ref C) (some d)))) ∨
  ∃ d fs,H2 e=some (XO e (.ref C) (some d))∧H2 d=some (XD d fs)∧fs.lookup f=none∧fs.length≤900∧D.nx σ (upd H2 d (XD d (fs++[(f,y)]))))
theorem lookup_app {α:Type} {f g:Str} {y:α}:∀ {fs:List (Str×α)},fs.lookup f=none→(fs++[(f,y)]).lookup g=if g=f then some y else fs.lookup g
 | [],_=>by
  by_cases h:g=f
  ·
   subst h; simp
  ·
   have:(g == f)=false:=beq_eq_false_iff_ne.mpr h
   simp [List.lookup,this,h]
 | (k,v)::fs,h=>by
  have h':(f == k)=false∧fs.lookup f=none:=by
   cases e:(f == k) with
   | true=>simp [List.lookup,e] at h
   | false=>exact ⟨rfl,by simpa [List.lookup,e] using h⟩
  have ih:=lookup_app (g:=g) (y:=y) h'.2
  cases e:(g == k) with
  | true =>
   have:g≠f:=fun z=>by subst z; rw [h'.1] at e; cases e
   simp [List.lookup,e,this]
  | false =>
   simp only [List.cons_append,List.lookup,e]
   exact ih
theorem ps_xset {o value:Expr} {f:Str} {pos':Pos} {ta tv:TE} (ha:PE X o ta) (hv:PE X value tv) (hs:swapsWith value (some (.Attribute o f pos')) pos.line X.env=pure false:=by rfl):PS X (.Assign [.Attribute o f pos'] value pos) (sXset X.K ta tv f):=by
 intro pins s σ H D I h
 refine plainObj_wpAny_Assign_Attribute (thn (hv pins s σ H _ I h) fun u s1 ⟨y,H1,I1,ry,q⟩=>thn (ha pins s1 σ H1 _ I1 q) fun ov s2 ⟨x,H2,I2,rx,e,c,C,L,cd,ex,S,hf,q2⟩=>?_) hs
 subst ex
 obtain rfl:ov=Value.ref e:=rx
 rcases q2 with ⟨he,q2⟩ | ⟨d,fs,he,hd,hl,hz,q2⟩
 ·
  obtain ⟨vs,sl,od,Ia,hz⟩:=(I2.xo he).inst (fun d z=>nomatch z)
  have dn:H2 s2.heap.objs.size=none:=I2.hok.fresh (Nat.le_refl _)
  have dne:s2.heap.objs.size≠e:=Nat.ne_of_gt (Heap.lt_size Ia.at_)
  refine xset_new S I2.kIn Ia rfl hf fun h' tk e1 n1 k1=>⟨σ,_,?_,q2 s2.heap.objs.size dn dne⟩
  have hd1:ObjOk X.prog X.w (upd (upd H2 s2.heap.objs.size (XD s2.heap.objs.size [(f,y)])) e (XO e (.ref C) (some s2.heap.objs.size))) h' s2.heap.objs.size (XD s2.heap.objs.size [(f,y)]):=by
   refine XD.ok n1 (fun g=>?_) fun g hg=>?_
   ·
    by_cases z:g=f
    ·
     subst z; simp [RelO,ry]
    ·
     have:(g == f)=false:=beq_eq_false_iff_ne.mpr z
     simp [List.lookup,this,z,RelO]
   ·
    by_cases z:g=f
    ·
     simp [z]
    ·
     simp [z] at hg
  obtain ⟨vs0,sl0,he0,hz0,h10⟩:=I2.xo he
  have e2:=Ia.at_.symm.trans he0
  cases e2
  have ho1:ObjOk X.prog X.w (upd (upd H2 s2.heap.objs.size (XD s2.heap.objs.size [(f,y)])) e (XO e (.ref C) (some s2.heap.objs.size))) h' e (XO e (.ref C) (some s2.heap.objs.size)):=XO.ok ⟨vs,sl,e1,hz0,h10⟩
  have tr:∀ b o,H2 b=some o→b≠e→upd (upd H2 s2.heap.objs.size (XD s2.heap.objs.size [(f,y)])) e (XO e (.ref C) (some s2.heap.objs.size)) b=some o:=fun b o q hb=>by
   rw [upd_ne hb,upd_ne (ne_of_none q dn)]; exact q
  have nx:∀ b o,H2 b=some o→(∀ ψ,o≠.ext ψ)→b≠e:=fun b o q n z=>by subst z; rw [he] at q; cases q; exact n _ rfl
  refine I2.un ⟨fun b o hb n _ _=>k1 b o (fun z=>by subst z; rw [he] at n; cases n) hb,fun b o hb n _ _=>⟨o.slots,k1 b o (fun z=>by subst z; rw [he] at n; cases n) hb⟩,fun b o hb n _=>?_,fun b o hb _=>?_,fun b xs q=>tr b _ q (nx b _ q fun _ z=>nomatch z),fun b o' u' q=>tr b _ q (nx b _ q fun _ z=>nomatch z),fun b ps q=>tr b _ q (nx b _ q fun _ z=>nomatch z)⟩ fun b o q=>?_
  ·
   rw [upd_ne (fun z=>by subst z; rw [he] at n; cases n),upd_ne (Nat.ne_of_lt (Heap.lt_size hb))]; exact n
  ·
   by_cases z:b=e
   ·
    subst z; exact ⟨_,e1⟩
   ·
    exact ⟨o,k1 b o z hb⟩
  ·
   by_cases hb:b=e
   ·
    subst hb; rw [upd_same] at q; cases q; exact ho1
   ·
    by_cases hb2:b=s2.heap.objs.size
    ·
     subst hb2; rw [upd_ne hb,upd_same] at q; cases q; exact hd1
    ·
     rw [upd_ne hb,upd_ne hb2] at q
     refine (I2.hok b o q).stay (fun c v hc z=>k1 c v ?_ z) (fun c z=>tr c _ z (nx c _ z fun _ z=>nomatch z)) (fun c xs z=>tr c _ z (nx c _ z fun _ z=>nomatch z)) fun c ob _ _ z=>tr c _ z (nx c _ z fun _ z=>nomatch z)
     rcases hc with rfl | hc
     ·
      exact hb
     ·
      exact nx c _ hc fun _ z=>nomatch z
 ·
  obtain ⟨mA,nA,rA,wA⟩:=I2.xd hd
  obtain ⟨od,_,_,hod,_⟩:=id nA
  obtain ⟨vs,sl,od',Ia,hz'⟩:=(I2.xo he).inst (fun d' z=>by cases z; exact ⟨od,hod⟩)
  refine xset_old S I2.kIn Ia rfl nA wA (by rw [List.length_map]; omega) hf fun h' tk n1 sb=>⟨σ,_,?_,q2⟩
  refine I2.write (x:=d) (e:=d) (by rw [hd]; exact True.intro) (.inl rfl) (fun b u hb e1=>(sb.2 b hb).trans e1) (let ⟨o,_,_,e1,_⟩:=n1; ⟨o,e1⟩) (XD.ok n1 (fun g=>?_) fun g hg=>?_)
  ·
   rw [lookup_app hl]
   by_cases z:g=f
   ·
    subst z; simp [RelO,ry]
   ·
    rw [if_neg z,if_neg z]; exact rA g
  ·
   by_cases z:g=f
   ·
    subst z; simp
   ·
    rw [if_neg z] at hg
    have:=wA g hg
    simp at this ⊢
    exact .inl this
end
end L2
namespace L2
open PySem PySem.Spec PyProof.Rows PySem.W
def spXI (K:Frag) (ns:List Str):Sp:=fun vs H Q _=>∃ e vals c C L cd,vs=.ref e::vals∧H e=some (XO e (.ref C) none)∧XStd K c C L cd∧(∀ f∈ns,findIn K (.ref C) f=some none)∧vals.length=ns.length ∧
 ∀ d,H d=none→d≠e→Q .non (upd (upd H d (XD d (ns.zip vals))) e (XO e (.ref C) (some d)))
def tLI (K:Frag):TS:=tDrop (tVinit K (tCons (tVar 0) (tCons (tVar 1) tNil)))
def tI2 (K:Frag) (x:V) (f g:Str):TS:=tSeq (tDrop (tVinit K (tCons (tVar 0) (tCons (tC x) tNil)))) (tSeq (sXset K (tVar 0) (tVar 1) f) (sXset K (tVar 0) (tVar 2) g))
theorem read_LI {K:Frag} {vs:List V} {H:Hp} {Q:VK} {E:XK} {a b:Str} (h:spLI K vs H Q E):tLI K { nx:=fun _ H'=>Q .non H',rt:=Q } (start [a,b] vs) H:=by
 obtain ⟨e,tx,c,C,L,cd,rfl,he,S,q⟩:=h
 exact ⟨_,rfl,_,rfl,e,tx,c,C,L,cd,rfl,he,S,q⟩
theorem read_I2 {K:Frag} {vs:List V} {H:Hp} {Q:VK} {E:XK} {a b b2 f g:Str} {x:V} (hfg:f≠g) (h:spXI K [f,g] vs H Q E):tI2 K x f g { nx:=fun _ H'=>Q .non H',rt:=Q } (start [a,b,b2] vs) H:=by
 obtain ⟨e,vals,c,C,L,cd,rfl,he,S,hf,hl,q⟩:=h
 match vals,hl with
 | [v,v2],_ =>
  refine ⟨_,rfl,e,x,c,C,L,cd,rfl,he,S,_,rfl,_,rfl,e,c,C,L,cd,rfl,S,hf f (by simp),.inl ⟨he,fun d hd hde=>?_⟩⟩
  refine ⟨_,rfl,_,rfl,e,c,C,L,cd,rfl,S,hf g (by simp),.inr ⟨d,[(f,v)],upd_same,?_,?_,by simp,?_⟩⟩
  ·
   rw [upd_ne hde,upd_same]
  ·
   have:(g == f)=false:=beq_eq_false_iff_ne.mpr (Ne.symm hfg)
   simp [List.lookup,this]
  ·
   have z:=q d hd hde
   have e1:upd (upd (upd H d (XD d [(f,v)])) e (XO e (.ref C) (some d))) d (XD d ([(f,v)]++[(g,v2)]))=upd (upd H d (XD d ([f,g].zip [v,v2]))) e (XO e (.ref C) (some d)):=by
    funext b
    unfold upd
    by_cases h1:b=d
    ·
     subst h1; rw [if_pos rfl,if_neg hde,if_pos rfl]; rfl
    ·
     rw [if_neg h1]
     by_cases h2:b=e
     ·
      rw [if_pos h2,if_pos h2]
     ·
      rw [if_neg h2,if_neg h2,if_neg h1,if_neg h1]
   show Q .non _
   rw [e1]
   exact z
structure Xc where
 c:Str
 ns:List Str
 ds:List D
def XFly (K:Frag) (H:Hp) (cls:Value) (dx:Option Addr) (x:Xc):Prop:=∃ C vs,cls=.ref C∧excStd K x.c C=true∧(∀ f∈x.ns,findIn K (.ref C) f=some none)∧XF H dx x.ns vs∧Reps K H vs x.ds
theorem XFly.ext {K:Frag} {H H':Hp} {cls:Value} {dx:Option Addr} {x:Xc} (f:XFly K H cls dx x) (h:∀ b o,H b=some o→H' b=some o):XFly K H' cls dx x:=by
 obtain ⟨C,vs,e,s,fq,a,r⟩:=f
 exact ⟨C,vs,e,s,fq,a.pres fun b o _ q=>h b o q,r.pres fun b o _ q=>h b o q⟩
def CXr (P:Program) (w:World):CXT:=fun outer H s E e s'=>∃ a cls dx T H',e=.ref a∧s'.os=s.os∧AllBare s'.gens∧Un (frs outer) [] H H' s.heap s'.heap∧HOk P w H' s'.heap∧Fly s'.heap a cls dx (some T)∧H' a=none∧H' T=none ∧
 s.heap.objs.size≤a∧s.heap.objs.size≤T∧E cls dx H'
section
variable {X:Cx} {pins:List (Addr×Obj)} {σ:St} {H:Hp} {s:Shared}
theorem HOk.there {P:Program} {w:World} {H:Hp} {h:Heap} (x:HOk P w H h) {b:Addr} {o:HO} (e:H b=some o):∃ u,h.get? b=some u:=by
 have lt:=x.lt e
 cases o with
 | lst xs=>obtain ⟨_,_,_,_,e⟩:=x b _ e; exact ⟨_,e⟩
 | tup xs=>obtain ⟨_,_,_,o,e,_⟩:=x b _ e; exact ⟨_,e⟩
 | dK kvs=>obtain ⟨_,_,_,_,o,_,_,e,_⟩:=x b _ e; exact ⟨_,e⟩
 | dT kvs=>obtain ⟨_,_,_,_,o,_,_,e,_⟩:=x b _ e; exact ⟨_,e⟩
 | set S n=>obtain ⟨o,_,_,_,e,_⟩:=x b _ e; exact ⟨_,e⟩
 | ins C dx fs=>obtain ⟨_,_,_,e,_⟩:=x b _ e; exact ⟨_,e⟩
 | own y=>obtain ⟨_,e⟩:=x b _ e; exact ⟨_,e⟩
 | xd fs=>obtain ⟨_,⟨_,_,_,e,_⟩,_⟩:=x b _ e; exact ⟨_,e⟩
 | rng lo hi=>obtain ⟨_,_,_,e⟩:=x b _ e; exact ⟨_,e⟩
 | frz ob u=>obtain ⟨e,_⟩:=x b _ e; exact ⟨_,e⟩
 | tbl t=>obtain ⟨_,e,_⟩:=x b _ e; exact ⟨_,e⟩
 | met f y=>exact ⟨_,(show h.get? b=some _ from x b _ e)⟩
 | ext φ=>obtain ⟨_,⟨_,e⟩,_⟩:=x b _ e; exact ⟨_,e⟩
structure New (X:Cx) (pins:List (Addr×Obj)) (b:Addr):Prop where
 s0:X.s₀.heap.objs.size≤b
 loc:b≠X.env.locals
 cel:∀ x c,X.env.cells.lookup x=some c→c≠b
 pin:∀ p∈X.pn++pins,p.1≠b
theorem Inv.newer (I:Inv X pins σ H s) {b:Addr} (h:s.heap.objs.size≤b):New X pins b:=by
 refine ⟨Nat.le_trans I.sz h,fun z=>?_,fun x c e z=>?_,fun p hp z=>?_⟩
 ·
  have:=I.lt; rw [← z] at this; exact absurd this (Nat.not_lt.mpr h)
 ·
  obtain ⟨v,o,ho,_⟩:=I.cell x c e
  have:=Heap.lt_size ho; rw [z] at this; exact absurd this (Nat.not_lt.mpr h)
 ·
  have:=Heap.lt_size (I.pin p hp).1; rw [z] at this; exact absurd this (Nat.not_lt.mpr h)
structure Raised (X:Cx) (pins:List (Addr×Obj)) (H:Hp) (s:Shared) (a:Addr) (cls:Value) (dx T:Option Addr):Prop where
 fly:Fly s.heap a cls dx T
 na:H a=none
 nt:∀ t,T=some t→H t=none
 wa:New X pins a
 wt:∀ t,T=some t→New X pins t
def XOK (X:Cx) (xp:Xc→Prop):Prop:=∀ (pins:List (Addr×Obj)) (σ:St) (H:Hp) (s:Shared) (a:Addr) (cls:Value) (dx T:Option Addr) (x:Xc),Inv X pins σ H s→Raised X pins H s a cls dx T→XFly X.K H cls dx x→xp x→X.xe (.ref a) s
end
theorem xok_def {P:Program} {w:World} {K:Frag} {mg:Str→Option Value} {base:Heap} {N:List Str} {qual:Str} {scope:Scope} {f:Addr} {cd:Value} {A:Around} {outer:List Env} {s:Shared} {H:Hp} {E:XK} {xp:Xc→Prop}
  (h:∀ cls dx H' x,XFly K H' cls dx x→xp x→E cls dx H'):XOK (cxOf (CXr P w) P w K mg base N qual scope f cd A outer s H E) xp:=by
 intro pins σ H1 s1 a cls dx T x I R F q
 show wpAny (model P w) _ (leaving _ (.ref a)) _ _ s1
 unfold leaving
 have hl:=I.stack
 refine wpAny_bind (xnote (F:=s.heap.objs.size) I.ok.frames hl rfl R.fly fun h' T' fl hT k1 k2=>?_)
 have neL:∀ b o,s.heap.get? b=some o→b≠s.heap.objs.size:=fun b o e=>Nat.ne_of_lt (Heap.lt_size e)
 have neA:∀ b o,s.heap.get? b=some o→b≠a:=fun b o e=>Nat.ne_of_lt (Nat.lt_of_lt_of_le (Heap.lt_size e) R.wa.s0)
 have neT:∀ b o,s.heap.get? b=some o→some b≠T:=fun b o e z=>absurd (Heap.lt_size e) (Nat.not_lt.mpr (R.wt b z.symm).s0)
 have tra:∀ b o,H1 b=some o→b≠a∧some b≠T∧b∉frs (envOfC qual scope s.heap.objs.size f cd::outer):=fun b o e=>by
  refine ⟨fun z=>(by subst z; rw [R.na] at e; cases e),fun z=>(by rw [R.nt b z.symm] at e; cases e),fun z=>?_⟩
  have:=I.stkFree b z
  rw [e] at this; cases this
 refine ⟨a,cls,dx,T',H1,rfl,I.os,I.bare,⟨fun b o e n hf hx=>?_,fun b o e n hf hx=>?_,fun b o e n hx=>I.base.free b o e n hx,fun b o e hx=>?_,I.base.tups,I.base.frzs,I.base.tbls⟩,fun b o e=>?_,fl,R.na,?_,R.wa.s0,Nat.le_trans I.sz hT,h cls dx H1 x F q⟩
 ·
  refine k1 b o (neA b o e) (neT b o e) (fun hm=>?_) (I.base.keep b o e n hf hx)
  rcases List.mem_cons.mp (show b∈s.heap.objs.size::frs outer from hm) with z | z
  ·
   exact neL b o e z
  ·
   exact hf z
 ·
  obtain ⟨sl,e1⟩:=I.base.slot b o e n hf hx
  obtain ⟨sl',e2⟩:=k2 b _ (neA b o e) (neT b o e) e1
  exact ⟨sl',e2⟩
 ·
  obtain ⟨o',e1⟩:=I.base.there b o e hx
  obtain ⟨sl',e2⟩:=k2 b _ (neA b o e) (neT b o e) e1
  exact ⟨_,e2⟩
 ·
  refine (I.hok b o e).stay (fun c v hc z=>?_) (fun _ z=>z) (fun _ _ z=>z) fun _ _ _ _ z=>z
  have ht:∃ o',H1 c=some o':=by
   rcases hc with rfl | hc
   ·
    exact ⟨o,e⟩
   ·
    exact ⟨_,hc⟩
  obtain ⟨o',ho'⟩:=ht
  obtain ⟨t1,t2,t3⟩:=tra c o' ho'
  exact k1 c v t1 t2 t3 z
 ·
  exact I.hok.fresh hT
abbrev FSX:=List D→(L→Prop)→(Xc→Prop)→Prop
def spX (K:Frag) (n:Nat) (fs:FSX):Sp:=fun vs H Q E=>vs.length=n∧∃ ds post xp,Reps K H vs ds∧fs ds post xp∧(∀ v H' r,REnv K H H' [some v] [r]→post r→Q v H')∧∀ cls dx H' x,XFly K H' cls dx x→xp x→E cls dx H'
def wCallX (fs:FSX) (xp:Xc→Prop) (t:W (List L)):W L:=fun ρ post=>t ρ fun ls ρ1=>toDs ls fun ds=>fs ds (fun r=>post r ρ1) xp
theorem REnv.ds {K:Frag} {H:Hp}:∀ {vs:List V} {ds:List D},Reps K H vs ds→Paired (Slot1 K H) (vs.map some) (ds.map .d)
 | _,_,.nil=>.nil
 | _,_,.cons h t=>.cons ⟨_,rfl,h⟩ (REnv.ds t)
section
variable {X:Cx} {k n:Nat} {f:Addr} {fd:FuncData} {ps:List Str} {fs:FSX} {x:Str} {p pos:Pos} {e:Expr} {es:List Expr} {bs:List (Option Nat)} {t:W (List L)} {xp:Xc→Prop}
theorem run_x {pins:List (Addr×Obj)} {σ:St} {H Pr:Hp} {s:Shared} {ρ:Ev} {us:List Value} {vs:List V} {ds:List D} {post:L→Ev→Prop} {Ex:Value→Shared→Prop} (F:FnOk X.prog X.w X.K X.mg X.base (CXr X.prog X.w) k f fd ps (spX X.K n fs)) (hr:Room k X.A) (hb:Binds X.K fd ps []) (hl:vs.length=n)
  (I:Inv X pins σ H s) (E:REnv X.K Pr H σ ρ) (r:Vals vs us) (rs:Reps X.K H vs ds) (h:fs ds (fun r=>post r ρ) xp)
  (hx:∀ (s':Shared) (H':Hp) (a:Addr) (cls:Value) (dx T:Option Addr) (y:Xc),Inv X pins σ H' s'→REnv X.K Pr H' σ ρ→Raised X pins H' s' a cls dx T→XFly X.K H' cls dx y→xp y→Ex (.ref a) s') :
  wpAny (model X.prog X.w) X.A (call (.ref f) us) (EL X pins σ Pr post) Ex s:=by
 have hsp:spX X.K n fs vs (hidH H) (fun v H'=>∃ r,REnv X.K (hidH H) H' [some v] [r]∧post r ρ) (fun cls dx H'=>∃ y,XFly X.K H' cls dx y∧xp y) :=
  ⟨hl,ds,_,xp,rs.hid,h,fun v H' r E1 p=>⟨r,E1,p⟩,fun cls dx H' y q1 q2=>⟨y,q1,q2⟩⟩
 have hl':us.length=ps.length:=by rw [← r.length]; exact F.len _ _ _ _ hsp
 have bt:=hb s us I.kIn (by rw [List.append_nil]; exact hl')
 rw [List.append_nil] at bt
 refine wpAny_call (codeAny_mono (F.run X.A X.stack s (hidH H) ⟨us,[]⟩ us vs _ _ hr I.hide bt r hsp) fun res s' hq=>?_)
 cases res with
 | error e =>
  obtain ⟨a,cls,dx,T,H',rfl,os,bare,un,hok,fl,na,nt,za,zt,y,q1,q2⟩:=hq
  obtain ⟨I2,ext,back⟩:=I.unhide os bare un hok
  refine hx s' _ a cls dx (some T) y I2 (E.exten ext) ⟨fl,?_,fun t et=>?_,I.newer za,fun t et=>by cases et; exact I.newer zt⟩ (q1.ext fun b o q=>mrg_some q) q2
  ·
   rw [mrg_none na]; exact I.hok.fresh za
  ·
   cases et; rw [mrg_none nt]; exact I.hok.fresh zt
 | ok fl =>
  cases fl with
  | ret u =>
   obtain ⟨v,H',os,bare,un,hok,rv,r,E2,p⟩:=hq
   obtain ⟨I2,ext,back⟩:=I.unhide os bare un hok
   have E3:=E.exten ext
   have fr:∀ a∈ownsL r,H a=none∧∃ vs,H' a=some vs∧OMut vs:=fun a ha=>by
    have ha':a∈owns [r]:=by rw [owns_cons]; exact List.mem_append_left _ ha
    obtain ⟨vs',e1,m1⟩:=E2.at_own ha'
    exact ⟨back a _ e1 (E2.off a ha'),vs',e1,m1⟩
   refine ⟨v,_,r,ρ,I2,rv,⟨E3.sub,?_,fun a ha=>?_,.cons ?_ E3.sl⟩,p⟩
   ·
    rw [owns_cons]
    have n1:=E2.nd
    rw [owns_cons] at n1
    refine List.nodup_append.mpr ⟨(List.nodup_append.mp n1).1,E3.nd,fun a ha b hb z=>?_⟩
    subst z
    obtain ⟨vs',e1,_⟩:=E.at_own hb
    rw [(fr a ha).1] at e1; cases e1
   ·
    rw [owns_cons] at ha
    rcases List.mem_append.mp ha with z | z
    ·
     cases q:Pr a with
     | none=>rfl
     | some o=>have:=E.sub a o q; rw [(fr a z).1] at this; cases this
    ·
     exact E3.off a z
   ·
    have sl:=E2.sl
    cases sl with
    | cons q t =>
     exact q.pres (fun b o _ e=>mrg_some e) r fun a ha=>by
      obtain ⟨_,vs',e1,_⟩:=fr a ha
      rw [mrg_some e1,e1]
  | next=>exact False.elim hq
  | brk=>exact False.elim hq
  | cont=>exact False.elim hq
theorem pl_callX (F:FnOk X.prog X.w X.K X.mg X.base (CXr X.prog X.w) k f fd ps (spX X.K n fs)) (hr:Room k X.A) (hg:Gl X x) (hm:X.mg x=some (.ref f)) (hk:PySem.W.keepIn X.K (.ref f)=true) (hb:Binds X.K fd ps []) (hx:XOK X xp)
  (ha:PAL X (e::es) bs t) (hn:bs.length=n) (hdb:(x == ("__debug__" : Str))=false:=by decide) (he:starEach (e::es) X.env=(false,eval e X.env)::starEach es X.env:=by rfl) (hpl:(backTo pos (starEach es X.env)).any (·.1)=false:=by rfl) :
  PL X (.Call (.Name x p) (e::es) [] pos) (wCallX fs xp t):=by
 intro pins s σ H Pr ρ post I E0 h
 refine wpAny_Call_Name_kw (ld_glob I hg hm ?_ hdb)
 refine PySem.W.callWith_K (h₀:=X.base) I.ok.mod.kin hk (thn (ha pos pins s σ H Pr ρ _ I E0 h) fun us s1 ⟨vs,H1,ls,ρ1,I1,r,hl,hbl,E1,hv,q⟩=>⟨I1.kIn,?_⟩) he hpl
 obtain ⟨ds,rfl,q1⟩:=toDs_is q
 have hlen:vs.length=ds.length:=by simpa using hl
 exact run_x (post:=post) F hr hb (hbl.trans hn) I1 (E1.drop (by simp [hlen])) r (reps_of hlen E1) q1 fun s' H' a cls dx T y I2 _ R q1 q2=>hx pins σ H' s' a cls dx T y I2 R q1 q2
def xflds (ns:List Str) (ds:List D):List D:=if ns=[] then [] else ds
def wRaise (c:Str) (ns:List Str) (xp:Xc→Prop) (t:W (List L)):W Fl:=fun ρ _=>t ρ fun ls _=>toDs ls fun ds=>(ns=[]∨ds.length=ns.length)∧ds.length≤8∧xp ⟨c,ns,xflds ns ds⟩
structure XT (K:Frag) (mg:Str→Option Value) (c:Str) (C fI:Addr) (fd:FuncData) (ps:List Str) (ns:List Str):Prop where
 m:mg c=some (.ref C)
 s:excStd K c C=true
 mkx:XMk K C fI
 b:Binds K fd ps []
 kp:PySem.W.keepIn K (.ref C)=true
 fn:∀ f∈ns,findIn K (.ref C) f=some none
def InitOk (K:Frag) (sp:Sp) (C:Addr) (ns:List Str) (vs:List V):Prop:=∀ (e:Addr) (H:Hp) (Q:VK),H e=some (XO e (.ref C) none) →
 (∀ H2 dx,(∀ b,b≠e→∀ o,H b=some o→H2 b=some o)→H2 e=some (XO e (.ref C) dx)→((ns=[]∧dx=none)∨∃ d,dx=some d∧d≠e∧H2 d=some (XD d (ns.zip vs))∧H d=none∧ns.length=vs.length)→Q .non H2)→sp (.ref e::vs) H Q E0
theorem init_xi {K:Frag} {c:Str} {C:Addr} {ns:List Str} {vs:List V} (h:excStd K c C=true) (hf:∀ f∈ns,findIn K (.ref C) f=some none) (hl:vs.length=ns.length):InitOk K (spXI K ns) C ns vs:=fun e H Q he q=>by
 obtain ⟨L,cd,S⟩:=excStd_is h
 refine ⟨e,vs,c,C,L,cd,rfl,he,S,hf,hl,fun d hd hde=>q _ (some d) (fun b hb o z=>?_) upd_same (.inr ⟨d,rfl,hde,?_,hd,hl.symm⟩)⟩
 ·
  rw [upd_ne hb,upd_ne (ne_of_none z hd)]; exact z
 ·
  rw [upd_ne hde,upd_same]
theorem run_xmake {c:Str} {C fI:Addr} {ns:List Str} {sp:Sp} {pins:List (Addr×Obj)} {σ:St} {H:Hp} {s:Shared} {us:List Value} {vs:List V} {Q:Value→Shared→Prop} (T:XT X.K X.mg c C fI fd ps ns) (F:FnOk X.prog X.w X.K X.mg X.base CX0 k fI fd ps sp) (hi:InitOk X.K sp C ns vs) (hr:Room (k+1) X.A) (hz:us.length≤sizeLine)
  (I:Inv X pins σ H s) (r:Vals vs us)
  (hq:∀ (s':Shared) (H':Hp) (e:Addr) (dx:Option Addr),Inv X pins σ H' s'→(∀ b o,H b=some o→H' b=some o)→H' e=none→s.heap.objs.size≤e→Fly s'.heap e (.ref C) dx none→((ns=[]∧dx=none)∨∃ d od,dx=some d∧H' d=some (.frz od (.xd (ns.zip vs)))∧ns.length=vs.length)→Q (.ref e) s') :
  wpAny (model X.prog X.w) X.A (call (.ref C) us) Q X.xe s:=by
 obtain ⟨hh,g,d0,tk,os⟩:=s
 refine xcall I.kIn T.mkx hz fun h' e hm hsz=>?_
 obtain ⟨tt,he,_,_⟩:=hm.there
 have hn:H e=none:=I.hok.fresh hsz
 have I1:Inv X pins σ (upd H e (XO e (.ref C) none)) ⟨h',g,d0,tk,os⟩:=I.laid (t':=tk) hm.keeps hsz (XO.ok ⟨_,_,he,by simp,rfl⟩)
 have hsp:=hi e (upd H e (XO e (.ref C) none)) (fun v H2=>v=.non∧∃ dx,(∀ b,b≠e→∀ o,upd H e (XO e (.ref C) none) b=some o→H2 b=some o)∧H2 e=some (XO e (.ref C) dx)∧((ns=[]∧dx=none)∨∃ d,dx=some d∧d≠e∧H2 d=some (XD d (ns.zip vs))∧upd H e (XO e (.ref C) none) d=none∧ns.length=vs.length)) upd_same fun H2 dx a b c=>⟨rfl,dx,a,b,c⟩
 have r2:Vals (V.ref e::vs) (Value.ref e::us):=.cons rfl r
 have hl:(Value.ref e::us).length=ps.length:=by rw [← r2.length]; exact F.len _ _ _ _ hsp
 have bt:=T.b _ (Value.ref e::us) I1.kIn (by rw [List.append_nil]; exact hl)
 rw [List.append_nil] at bt
 refine wpAny_call (codeAny_mono (F.run _ X.stack _ _ ⟨Value.ref e::us,[]⟩ (Value.ref e::us) _ _ E0 (hr.make C us []) (I1.env0.make C us []) bt r2 hsp) fun res s' hq'=>?_)
 cases res with
 | error x=>exact hq'.elim
 | ok fl =>
  cases fl with
  | ret u =>
   obtain ⟨v,H2,I2,rv,ev,dx,kp,e2,alt⟩:=I1.after hq'
   subst ev
   refine ⟨rv,?_⟩
   have fl:=I2.xo e2
   have I3:=I2.forget e2
   have up:∀ b o,H b=some o→del H2 e b=some o:=fun b o q=>by
    have hb:b≠e:=fun z=>by subst z; rw [hn] at q; cases q
    rw [del_ne hb]; exact kp b hb o (by rw [upd_ne hb]; exact q)
   rcases alt with ⟨z1,z2⟩ | ⟨d,z1,z2,z3,z4,z5⟩
   ·
    exact hq s' _ e dx I3 up del_self hsz fl (.inl ⟨z1,z2⟩)
   ·
    have hd:del H2 e d=some (XD d (ns.zip vs)):=by rw [del_ne z2]; exact z3
    obtain ⟨mA,nA,rA,_⟩:=I2.xd z3
    obtain ⟨od,es,ep,hod,r1⟩:=id nA
    have I4:=I3.reword (w:=.frz od (.xd (ns.zip vs))) hd (fun q=>q) (fun _ q=>nomatch q) ⟨hod,mA,nA,rA⟩ (fun _ _ _ q=>nomatch q)
    have dn:H d=none:=by rw [upd_ne z2] at z4; exact z4
    refine hq s' _ e dx I4 (fun b o q=>?_) (by rw [upd_ne (Ne.symm z2)]; exact del_self) hsz fl (.inr ⟨d,od,z1,upd_same,z5⟩)
    rw [upd_ne (ne_of_none q dn)]; exact up b o q
  | next=>exact False.elim hq'
  | brk=>exact False.elim hq'
  | cont=>exact False.elim hq'
theorem pm_raise {c:Str} {C fI:Addr} {ns:List Str} {sp:Sp} {cpos:Pos} (T:XT X.K X.mg c C fI fd ps ns) (F:FnOk X.prog X.w X.K X.mg X.base CX0 k fI fd ps sp) (hi:∀ vs:List V,vs.length=n→InitOk X.K sp C ns vs) (hr:Room (k+1) X.A) (hg:Gl X c) (hx:XOK X xp) (ha:PAL X (e::es) bs t) (hn:bs.length=n)
  (hdb:(c == ("__debug__" : Str))=false:=by decide) (he:starEach (e::es) X.env=(false,eval e X.env)::starEach es X.env:=by rfl) (hpl:(backTo cpos (starEach es X.env)).any (·.1)=false:=by rfl) :
  PM X (.Raise (some (.Call (.Name c p) (e::es) [] cpos)) none pos) (wRaise c ns xp t):=by
 intro pins s σ H Pr ρ post I E0 h
 obtain ⟨LL,cd,S⟩:=excStd_is T.s
 rw [arm_exec_Raise]
 refine wpAny_bind (wpAny_standAt ?_)
 refine xraise S hr.hd (wpAny_bind (wpAny_mono (wpAny_Call_Name_kw (ld_glob I hg T.m ?_ hdb)) (fun v s3 h3=>wpAny_bind (wpAny_standAt (wpAny_pure h3))) fun _ _ z=>z))
 refine PySem.W.callWith_K (h₀:=X.base) I.ok.mod.kin T.kp (thn (ha cpos pins s σ H Pr ρ _ I E0 h) fun us s1 ⟨vs,H1,ls,ρ1,I1,r,hl,hbl,E1,hv,q⟩=>⟨I1.kIn,?_⟩) he hpl
 obtain ⟨ds,rfl,q0,q1,q⟩:=toDs_is q
 have hlen:vs.length=ds.length:=by simpa using hl
 have rs:=reps_of hlen E1
 refine run_xmake T F (hi vs (hbl.trans hn)) hr (by show us.length≤sizeLine; rw [← r.length,hlen]; exact Nat.le_trans q1 (by decide)) I1 r fun s' H' e dx I2 up na hsz fl alt=>⟨e,dx,rfl,I2.kIn,fl,?_⟩
 refine hx pins σ H' s' e _ dx none ⟨c,ns,xflds ns ds⟩ I2 ⟨fl,na,(fun _ z=>nomatch z),I1.newer hsz,(fun _ z=>nomatch z)⟩ ?_ q
 rcases alt with ⟨z1,z2⟩ | ⟨d,od,z1,z2,z3⟩
 ·
  exact ⟨C,[],rfl,T.s,T.fn,.inl ⟨z1,rfl,z2⟩,by unfold xflds; rw [if_pos z1]; exact .nil⟩
 ·
  by_cases zn:ns=[]
  ·
   subst zn
   have e0:vs=[]:=by cases vs with | nil=>rfl | cons _ _=>simp at z3
   subst e0
   exact ⟨C,[],rfl,T.s,T.fn,.inr ⟨d,od,z1,z2,z3⟩,by unfold xflds; rw [if_pos rfl]; exact .nil⟩
  ·
   exact ⟨C,vs,rfl,T.s,T.fn,.inr ⟨d,od,z1,z2,z3⟩,by unfold xflds; rw [if_neg zn]; exact rs.pres fun b o _ q=>up b o q⟩
end
end L2
namespace L2
open PySem PySem.Spec PyProof.Rows PySem.W
def okX (post:L→Prop):Fl→Ev→Prop:=fun f _=>match f with
 | .rt r=>post r
 | .nx=>post (.d .non)
 | _=>False
theorem fn_okX {P:Program} {w:World} {K:Frag} {mg:Str→Option Value} {base:Heap} {x qual:Str} {st:Stmt} {f:Addr} {fd:FuncData} {N ps:List Str} {k:Nat} {fs:FSX} (F:Fun K x qual st f fd) (S:FnScope N ps (defScope st)) (t:(Xc→Prop)→W Fl)
  (hbody:∀ (cdv:Value) (A:Around) (outer:List Env) (s:Shared) (H:Hp) (E:XK) (xp:Xc→Prop),Room k (A.deeper (envOfC qual (defScope st) s.heap.objs.size f cdv))→(∀ cls dx H' y,XFly K H' cls dx y→xp y→E cls dx H') →
   PMs (cxOf (CXr P w) P w K mg base N qual (defScope st) f cdv A outer s H E) (defBody st) (t xp))
  (h:∀ ds post xp,ds.length=ps.length→fs ds post xp→t xp (ds.map .d++List.replicate (N.length - ps.length) .un) (okX post)):FnOk P w K mg base (CXr P w) (k+1) f fd ps (spX K ps.length fs):=by
 obtain ⟨oc,od,kV,doc,pm,an,cdv,ct,osl,rfl,lk,hcd⟩:=F.ex
 refine fn_of lk hcd S (fun vs H Q E q=>q.1) fun A outer s H vs Q E hr q=>?_
 obtain ⟨hl,ds,post,xp,rs,hf,q1,q2⟩:=q
 have E0:REnv K H H (vs.map some) (ds.map .d):=⟨fun _ _ e=>e,by rw [owns_ds]; exact List.nodup_nil,fun a ha=>(by rw [owns_ds] at ha; simp at ha),REnv.ds rs⟩
 refine ⟨_,(hbody cdv A outer s H E xp hr q2).pss,H,ds.map .d++List.replicate (N.length - ps.length) .un,okX post,?_,h ds post xp (by rw [← rs.length]; exact hl) hf,fun σ' H' ρ' E' p=>?_,fun _ _ _ _ p=>p.elim,fun _ _ _ _ p=>p.elim,fun v τ H' r ρ' E' p=>?_⟩
 ·
  unfold start
  rw [hl]
  exact E0.uns _
 ·
  exact q1 .non H' (.d .non) ((⟨E'.sub,List.nodup_nil,fun a ha=>(by simp [owns] at ha),.nil⟩:REnv K H H' [] []).cons_d .non) p
 ·
  exact q1 v H' r (REnv.left (τ:=[some v]) (lam:=[r]) E' rfl) p
section
variable {X:Cx} {pins:List (Addr×Obj)} {σ:St} {H:Hp} {s:Shared}
end
end L2
namespace L2
open PySem PySem.Spec PyProof.Rows PySem.W
def isA (c y:Str):Bool:=c == y || c == ("LoadError" : Str)
structure XH (K:Frag) (mg:Str→Option Value) (c:Str) (C:Addr):Prop where
 m:mg c=some (.ref C)
 ns:nsIn K mainGlobals c=some (some (.ref C))
 cls:∃ cd,clsIn K C=some cd∧cd.name=c
 ty:typeIn K (.ref C)=some (.type "type")
 base:mroIn K C (.type "BaseException")=some true
section
variable {K:Frag} {mg:Str→Option Value} {c y:Str} {C D:Addr}
theorem XH.sub (T:XH K mg c C) (hs:excStd K y D=true):mroIn K D (.ref C)=some (isA c y):=by
 obtain ⟨L,cd,S⟩:=excStd_is hs
 obtain ⟨cdC,hC,hn⟩:=T.cls
 obtain ⟨kL,hL,hnL⟩:=S.lname
 rw [S.mroIn,xmro_ref]
 congr 1
 unfold isA
 have e1:(C == D)=(c == y):=by
  by_cases h:c=y
  ·
   subst h
   have z:=T.ns.symm.trans S.own
   cases z
   simp
  ·
   rw [beq_eq_false_iff_ne.mpr h,beq_eq_false_iff_ne]
   intro z
   subst z
   rw [S.cls] at hC; cases hC
   exact h (hn.symm.trans S.name)
 have e2:(C == L)=(c == ("LoadError" : Str)):=by
  by_cases h:c=("LoadError" : Str)
  ·
   subst h
   have z:=T.ns.symm.trans S.load
   cases z
   simp
  ·
   rw [beq_eq_false_iff_ne.mpr h,beq_eq_false_iff_ne]
   intro z
   subst z
   rw [hL] at hC; cases hC
   exact h (hn.symm.trans hnL)
 rw [e1,e2]
end
abbrev Cx.tr (X:Cx) (pins:List (Addr×Obj)) (E:Value→Shared→Prop):Cx:={ X with pn:=X.pn++pins,xe:=E }
abbrev Cx.han (X:Cx) (a:Addr):Cx:={ X with A:=X.A.mark (some (.ref a)),calm:=false,xe:=fun _ _=>False }
section
variable {X:Cx} {pins pins0:List (Addr×Obj)} {σ:St} {H:Hp} {s:Shared} {E:Value→Shared→Prop} {a:Addr}
theorem Cx.Ok.tr (ok:X.Ok):(X.tr pins E).Ok:=⟨ok.mod,ok.kind,ok.glob,ok.blt,ok.above,ok.inj,ok.has,ok.cab,ok.hd,ok.frames,ok.stk,ok.exf,ok.bs,ok.bsz,ok.noex,ok.exfs,ok.funs,ok.frf,ok.tbs⟩
theorem Inv.tr (I:Inv X pins σ H s):Inv (X.tr pins E) [] σ H s:=⟨I.ok.tr,I.os,I.bare,I.base,I.loc,I.cell,I.free,I.freeC,fun p hp=>I.pin p (by simpa using hp),I.hok,I.len⟩
theorem Inv.han (I:Inv X pins σ H s) (a:Addr):Inv (X.han a) pins σ H s :=
 ⟨⟨I.ok.mod,I.ok.kind,I.ok.glob,I.ok.blt,I.ok.above,I.ok.inj,I.ok.has,I.ok.cab,(fun z=>nomatch z),I.ok.frames,I.ok.stk,I.ok.exf,I.ok.bs,I.ok.bsz,I.ok.noex,I.ok.exfs,I.ok.funs,I.ok.frf,I.ok.tbs⟩,I.os,I.bare,I.base,I.loc,I.cell,I.free,I.freeC,I.pin,I.hok,I.len⟩
end
def xeT (X:Cx) (pins:List (Addr×Obj)) (Pr:Hp) (xp:Xc→Ev→Prop):Value→Shared→Prop:=fun e s'=>∃ σ' H' ρ' a cls dx T x,e=.ref a∧Inv X pins σ' H' s'∧REnv X.K Pr H' σ' ρ'∧Raised X pins H' s' a cls dx T∧XFly X.K H' cls dx x∧xp x ρ'
abbrev Cx.tb (X:Cx) (pins:List (Addr×Obj)) (Pr:Hp) (xp:Xc→Ev→Prop):Cx:=X.tr pins (xeT X pins Pr xp)
def Le (P Q:Hp):Prop:=∀ b o,P b=some o→Q b=some o
theorem REnv.le {K:Frag} {P Q H:Hp} {σ:St} {ρ:Ev} (E:REnv K Q H σ ρ) (h:Le P Q):REnv K P H σ ρ:=⟨fun b o e=>E.sub b o (h b o e),E.nd,fun a ha=>(by
  have z:=E.off a ha
  cases q:P a with
  | none=>rfl
  | some o=>rw [h a o q] at z; cases z),E.sl⟩
section
variable {X:Cx} {pins0:List (Addr×Obj)} {Pr0:Hp} {xp:Xc→Ev→Prop} {k n:Nat} {f:Addr} {fd:FuncData} {ps:List Str} {fs:FSX} {x:Str} {p pos:Pos} {e:Expr} {es:List Expr} {bs:List (Option Nat)} {t:W (List L)} {te:W L} {tm tu:W Fl} {st:Stmt} {sts:List Stmt}
end
end L2
namespace L2
open PySem PySem.Spec PyProof.Rows PySem.W
section
variable {X:Cx} {pins:List (Addr×Obj)} {σ:St} {H:Hp} {s:Shared}
end
section
variable {X:Cx} {body suite:List Stmt} {b0:Stmt} {c:Str} {C:Addr} {p hp pos:Pos} {tb:(Xc→Ev→Prop)→W Fl} {ts:W Fl}
end
section
variable {X:Cx} {a:Expr} {ta:W L} {pos p:Pos}
end
end L2
namespace L2
open PySem PySem.Spec PyProof.Rows PySem.W
section
variable {X:Cx} {e a:Expr} {te ta:W L} {f:Str} {pos p:Pos}
end
theorem xok_no {X:Cx}:XOK X (fun _=>False):=fun _ _ _ _ _ _ _ _ _ _ _ _ h=>h.elim
section
variable {X:Cx} {k k' n:Nat} {f:Addr} {fd:FuncData} {ps:List Str} {fs:FSX} {g:Str} {st:Stmt} {e:Expr} {es:List Expr} {bs:List (Option Nat)} {t:W (List L)} {p pos cpos:Pos} {xp:Xc→Prop} {c:Str} {C fI:Addr} {ns:List Str}
theorem pl_cxX (F:FnOk X.prog X.w X.K X.mg X.base (CXr X.prog X.w) k f fd ps (spX X.K n fs)) (T:FX X.K X.mg g st f fd ps) (hr:Room k' X.A) (hx:XOK X xp) (ha:PAL X (e::es) bs t) (hk:k≤k':=by decide) (hg:Gl X g:=by rfl) (hn:bs.length=n:=by rfl) (hdb:(g == ("__debug__" : Str))=false:=by decide) (he:starEach (e::es) X.env=(false,eval e X.env)::starEach es X.env:=by rfl) (hpl:(backTo pos (starEach es X.env)).any (·.1)=false:=by rfl) :
  PL X (.Call (.Name g p) (e::es) [] pos) (wCallX fs xp t):=pl_callX F (hr.mono hk) hg T.m T.f.kp T.b hx ha hn hdb he hpl
theorem pm_raiseF (T:XT X.K X.mg c C fI fd ps ns) (F:FnOk X.prog X.w X.K X.mg X.base CX0 2 fI fd ps (spXI X.K ns)) (hr:Room k' X.A) (hx:XOK X xp) (ha:PAL X (e::es) bs t) (hk:3≤k':=by decide) (hg:Gl X c:=by rfl) (hn:bs.length=ns.length:=by rfl)
  (hdb:(c == ("__debug__" : Str))=false:=by decide) (he:starEach (e::es) X.env=(false,eval e X.env)::starEach es X.env:=by rfl) (hpl:(backTo cpos (starEach es X.env)).any (·.1)=false:=by rfl) :
  PM X (.Raise (some (.Call (.Name c p) (e::es) [] cpos)) none pos) (wRaise c ns xp t) :=
 pm_raise T F (fun vs hv=>init_xi T.s T.fn hv) (hr.mono hk) hg hx ha hn hdb he hpl
abbrev fdQ (g q:Str) (st:Stmt) (md:Value) (c:Nat):FuncData:=PySem.W.fnOf g q (defArgs st) (defBody st) (defScope st) .none .none .none md none (.ref c) .none
theorem XLoad.mk' {K:Frag} {mg:Str→Option Value} {h:Heap} (X:K.In h) (G:h.Ns mainGlobals mg) {L fL:Addr} {st:Stmt} {md:Value} {c:Nat} (e1:nsIn K mainGlobals "LoadError"=some (some (.ref L))) (e2:readsIn K L (.type "type")=true) (e3:specialIn K (.ref L) "__getattribute__"=some (some (.builtin "type.__getattribute__")))
  (e4:findCls K (.ref L) (.type "type") "__init__"=some (.val (.ref fL))) (e5:K.lookup fL=some ⟨.type "function",none,.func (fdQ "__init__" "LoadError.__init__" st md c),#[]⟩) (e6:codeIn K (.ref c) "LoadError.__init__"=true) (e7:keepIn K (.ref fL)=true)
  (e8:∀ (kV doc pm:Value) (an:Option Addr) (cdv ct:Value) (us:List Value),us.length=2→bindArgs (PySem.W.fnOf "__init__" "LoadError.__init__" (defArgs st) (defBody st) (defScope st) .none kV doc pm an cdv ct) ⟨us,[]⟩=pure ((["self","text"]:List Str).zip us)):XLoad K mg L fL (fdQ "__init__" "LoadError.__init__" st md c) st :=
 ⟨mg_of X G e1,e2,e3,e4,fun_mk e5 e6 e7,(fun_mk e5 e6 e7).binds e8⟩
theorem XT.mk' {K:Frag} {mg:Str→Option Value} {h:Heap} (X:K.In h) (G:h.Ns mainGlobals mg) {c:Str} {C fI:Addr} {fd:FuncData} {ps ns:List Str} (e1:nsIn K mainGlobals c=some (some (.ref C))) (e2:excStd K c C=true) (e3:xmkIn K C fI=true) (b:Binds K fd ps []) (e4:keepIn K (.ref C)=true) (e5:(ns.all fun f=>findIn K (.ref C) f == some none)=true):XT K mg c C fI fd ps ns :=
 ⟨mg_of X G e1,e2,xmk_of e3,b,e4,fun f hf=>beq_iff_eq.mp (List.all_eq_true.mp e5 f hf)⟩
theorem XH.mk' {K:Frag} {mg:Str→Option Value} {h:Heap} (X:K.In h) (G:h.Ns mainGlobals mg) {c:Str} {C:Addr} (e1:nsIn K mainGlobals c=some (some (.ref C))) (e2:((clsIn K C).any fun cd=>cd.name == c)=true) (e3:typeIn K (.ref C)=some (.type "type")) (e4:mroIn K C (.type "BaseException")=some true):XH K mg c C :=
 ⟨mg_of X G e1,e1,(let ⟨cd,h1,h2⟩:=any_some e2; ⟨cd,h1,beq_iff_eq.mp h2⟩),e3,e4⟩
theorem spLI_len {K:Frag}:∀ vs H Q E,spLI K vs H Q E→vs.length=2:=fun _ _ _ _ ⟨_,_,_,_,_,_,e,_⟩=>by rw [e]; rfl
theorem spXI_len {K:Frag} {ns:List Str}:∀ vs H Q E,spXI K ns vs H Q E→vs.length=ns.length+1:=fun _ _ _ _ ⟨_,_,_,_,_,_,e,_,_,_,l,_⟩=>by rw [e,List.length_cons,l]
end
end L2
namespace L2
open PySem PySem.Spec PyProof.Rows PySem.W
section
variable {X:Cx} {e:Expr} {p apos cpos:Pos} {te:W L} {x:Str}
end
end L2
namespace L2
open PySem PySem.Spec PyProof.Rows PySem.W
section
variable {X:Cx} {a b:Expr} {p p0 pos pos0:Pos} {t u:W L}
end
end L2
namespace L2
open PySem PySem.Spec PyProof.Rows PySem.W
section
variable {X:Cx} {tg:Expr} {t:W Fl} {x:Str} {p pos:Pos}
end
end L2
namespace L2
open PySem PySem.Spec PyProof.Rows
section
variable {prog:Program} {w:World} {A:Around} {E:Value→Shared→Prop} {s:Shared}
end
section
variable {X:Cx}
end
end L2
namespace L2
open PySem PySem.Spec PyProof.Rows
section
variable {κ:Type} [DecidableEq κ]
def valV (kvs:List (κ×V)) (k:κ):Option V:=(kvs.find? fun kv=>decide (kv.1=k)).map (·.2)
def putK (kvs:List (κ×V)) (k:κ) (v:V):List (κ×V) :=
 if (kvs.any fun kv=>decide (kv.1=k))=true then kvs.map (fun kv=>if kv.1=k then (kv.1,v) else kv) else kvs++[(k,v)]
theorem valV_pos {p:κ×V} {r:List (κ×V)} {k:κ} (e:p.1=k):valV (p::r) k=some p.2:=by simp [valV,List.find?_cons,e]
theorem valV_neg {p:κ×V} {r:List (κ×V)} {k:κ} (e:¬ p.1=k):valV (p::r) k=valV r k:=by simp [valV,List.find?_cons,e]
theorem length_putK (kvs:List (κ×V)) (k:κ) (v:V):(putK kvs k v).length≤kvs.length+1:=by
 unfold putK
 split
 ·
  rw [List.length_map]; omega
 ·
  rw [List.length_append,List.length_cons,List.length_nil]; omega
theorem RelO.isSome_eq {o:Option V} {u:Option Value} (r:RelO o u):o.isSome=u.isSome:=by
 cases o with
 | none=>cases u with
  | none=>rfl
  | some _=>exact (show False from r).elim
 | some _=>cases u with
  | none=>exact (show False from r).elim
  | some _=>rfl
theorem KV.val {kvs:List (κ×V)} {vs:List (κ×Value)} (r:KV kvs vs) (k:κ):RelO (valV kvs k) (valueAt vs k):=by
 unfold KV at r
 induction r with
 | nil=>exact True.intro
 | @cons p q ps qs h t ih =>
  obtain ⟨h1,h2⟩:=h
  by_cases e:p.1=k
  ·
   have e':q.1=k:=h1.symm.trans e
   have b:valueAt (q::qs) k=some q.2:=by simp [valueAt,List.find?_cons,e']
   rw [valV_pos e,b]; exact h2
  ·
   have e':¬ q.1=k:=fun z=>e (h1.trans z)
   have b:valueAt (q::qs) k=valueAt qs k:=by simp [valueAt,List.find?_cons,e']
   rw [valV_neg e,b]; exact ih
theorem KV.any {kvs:List (κ×V)} {vs:List (κ×Value)} (r:KV kvs vs) (k:κ):(kvs.any fun kv=>decide (kv.1=k))=vs.any fun kv=>decide (kv.1=k):=by
 unfold KV at r
 induction r with
 | nil=>rfl
 | cons h t ih=>rw [List.any_cons,List.any_cons,ih,h.1]
theorem KV.repl {kvs:List (κ×V)} {vs:List (κ×Value)} (r:KV kvs vs) (k:κ) {y:V} {u:Value} (ry:RelV y u) :
  KV (kvs.map fun kv=>if kv.1=k then (kv.1,y) else kv) (vs.map fun kv=>if kv.1=k then (kv.1,u) else kv):=by
 unfold KV at r ⊢
 induction r with
 | nil=>exact .nil
 | @cons p q ps qs h t ih =>
  rw [List.map_cons,List.map_cons]
  refine .cons ?_ ih
  obtain ⟨h1,h2⟩:=h
  by_cases e:p.1=k
  ·
   rw [if_pos e,if_pos (h1.symm.trans e)]; exact ⟨h1,ry⟩
  ·
   rw [if_neg e,if_neg (fun z=>e (h1.trans z))]; exact ⟨h1,h2⟩
theorem KV.put {kvs:List (κ×V)} {vs:List (κ×Value)} (r:KV kvs vs) (k:κ) {y:V} {u:Value} (ry:RelV y u):KV (putK kvs k y) (stored vs k u):=by
 unfold putK stored
 rw [r.any k]
 by_cases e:(vs.any fun kv=>decide (kv.1=k))=true
 ·
  rw [if_pos e,if_pos e]; exact r.repl k ry
 ·
  rw [if_neg e,if_neg e]; exact Paired.snoc r ⟨rfl,ry⟩
theorem KV.length {kvs:List (κ×V)} {vs:List (κ×Value)} (r:KV kvs vs):kvs.length=vs.length:=Paired.length r
end
theorem kV_is {P:Program} {w:World} {k:Key} {u:Value} (r:RelV (kV k) u):(mixKind P w).is k u=true:=by
 cases k with
 | inl i=>obtain ⟨t,e⟩:=(show ∃ t,u=Value.int i t from r); subst e; exact mixKind_int P w i t
 | inr x=>obtain ⟨t,e⟩:=(show ∃ t,u=Value.str x t from r); subst e; exact mixKind_str P w x t
end L2
namespace L2
open PySem PySem.Spec PyProof.Rows
abbrev DR (K:PySem.W.Frag) (H:Hp):List (Key×V)→List (Key×D)→Prop:=Paired fun (p:Key×V) (q:Key×D)=>p.1=q.1∧Rep K H p.2 q.2
def valD (kvs:List (Key×D)) (k:Key):Option D:=match kvs with
 | []=>none
 | p::r=>if p.1=k then some p.2 else valD r k
def putD (kvs:List (Key×D)) (k:Key) (d:D):List (Key×D):=if (kvs.any fun p=>decide (p.1=k))=true then kvs.map (fun p=>if p.1=k then (p.1,d) else p) else kvs++[(k,d)]
theorem DR.val {K:PySem.W.Frag} {H:Hp} {k:Key}:∀ {vs:List (Key×V)} {kvs:List (Key×D)},DR K H vs kvs→(valD kvs k=none∧valV vs k=none)∨∃ d v,valD kvs k=some d∧valV vs k=some v∧Rep K H v d
 | _,_,.nil=>.inl ⟨rfl,rfl⟩
 | p::vs,q::kvs,.cons h t=>by
  by_cases e:p.1=k
  ·
   refine .inr ⟨q.2,p.2,?_,valV_pos e,h.2⟩
   unfold valD
   rw [if_pos (h.1.symm.trans e)]
  ·
   have e':¬ q.1=k:=fun z=>e (h.1.trans z)
   rw [valV_neg e]
   unfold valD
   rw [if_neg e']
   exact DR.val t
theorem DR.any {K:PySem.W.Frag} {H:Hp} {k:Key}:∀ {vs:List (Key×V)} {kvs:List (Key×D)},DR K H vs kvs→(vs.any fun p=>decide (p.1=k))=kvs.any fun p=>decide (p.1=k)
 | _,_,.nil=>rfl
 | p::vs,q::kvs,.cons h t=>by rw [List.any_cons,List.any_cons,DR.any t,h.1]
theorem DR.repl {K:PySem.W.Frag} {H:Hp} {k:Key} {v:V} {d:D} (r:Rep K H v d):∀ {vs:List (Key×V)} {kvs:List (Key×D)},DR K H vs kvs→DR K H (vs.map fun p=>if p.1=k then (p.1,v) else p) (kvs.map fun p=>if p.1=k then (p.1,d) else p)
 | _,_,.nil=>.nil
 | p::vs,q::kvs,.cons h t=>by
  rw [List.map_cons,List.map_cons]
  refine .cons ?_ (DR.repl r t)
  by_cases e:p.1=k
  ·
   rw [if_pos e,if_pos (h.1.symm.trans e)]; exact ⟨h.1,r⟩
  ·
   rw [if_neg e,if_neg fun z=>e (h.1.trans z)]; exact h
theorem DR.put {K:PySem.W.Frag} {H:Hp} {k:Key} {v:V} {d:D} {vs:List (Key×V)} {kvs:List (Key×D)} (h:DR K H vs kvs) (r:Rep K H v d):DR K H (putK vs k v) (putD kvs k d):=by
 unfold putK putD
 rw [h.any]
 split
 ·
  exact h.repl r
 ·
  exact Paired.app h (.cons ⟨rfl,r⟩ .nil)
theorem DR.pres {K:PySem.W.Frag} {H H':Hp} (p:Pres H H') {vs:List (Key×V)} {kvs:List (Key×D)} (h:DR K H vs kvs):DR K H' vs kvs:=Paired.mapP h fun _ _ z=>⟨z.1,z.2.pres p⟩
def keyOf (d:D) (k:Key→Prop):Prop:=match d with
 | .int i=>k (.inl i)
 | .str x=>k (.inr x)
 | _=>False
theorem keyOf_is {K:PySem.W.Frag} {H:Hp} {v:V} {d:D} {u:Value} {k:Key→Prop} (h:keyOf d k) (r:Rep K H v d) (rv:RelV v u):∃ key,v=kV key∧RelV (kV key) u∧k key:=by
 cases r with
 | int i=>exact ⟨.inl i,rfl,rv,h⟩
 | str x=>exact ⟨.inr x,rfl,rv,h⟩
 | _=>exact h.elim
def dicV (i:Nat) (ρ:Ev) (k:Addr→List (Key×D)→Prop):Prop:=match ρ[i]? with
 | some (.dic a kvs)=>k a kvs
 | _=>False
theorem dicV_is {i:Nat} {ρ:Ev} {k:Addr→List (Key×D)→Prop} (h:dicV i ρ k):∃ a kvs,ρ[i]?=some (.dic a kvs)∧k a kvs:=by
 unfold dicV at h
 cases q:ρ[i]? with
 | none=>rw [q] at h; exact h.elim
 | some l =>
  rw [q] at h
  cases l with
  | dic a kvs=>exact ⟨a,kvs,rfl,h⟩
  | _=>exact h.elim
section
variable {K:PySem.W.Frag} {Pr H:Hp} {σ:St} {ρ:Ev} {a:Addr} {kvs ks:List (Key×D)}
theorem REnv.dicAt {i:Nat} (E:REnv K Pr H σ ρ) (q:ρ[i]?=some (.dic a kvs)):σ[i]?=some (some (.ref a))∧∃ vs,H a=some (.dK vs)∧DR K H vs kvs:=by
 obtain ⟨sv,hs,sl⟩:=E.slot q
 unfold Slot1 at sl
 obtain ⟨rfl,r⟩:=sl
 exact ⟨hs,r⟩
theorem owns_cons_dic:owns (.dic a kvs::ρ)=a::owns ρ:=rfl
theorem REnv.cons_dic (E:REnv K Pr H σ ρ) {vs:List (Key×V)} (h:H a=none) (r:DR K H vs kvs):REnv K Pr (upd H a (.dK vs)) (some (.ref a)::σ) (.dic a kvs::ρ):=by
 have E':=E.new (o:=.dK vs) h
 refine ⟨E'.sub,?_,fun b hb=>?_,.cons ?_ E'.sl⟩
 ·
  rw [owns_cons_dic]
  refine List.nodup_cons.mpr ⟨fun hm=>?_,E.nd⟩
  obtain ⟨us,e,_⟩:=E.at_own hm
  rw [h] at e; cases e
 ·
  rw [owns_cons_dic] at hb
  rcases List.mem_cons.mp hb with rfl | hb
  ·
   cases q:Pr b with
   | none=>rfl
   | some u=>rw [E.sub b u q] at h; cases h
  ·
   exact E.off b hb
 ·
  unfold Slot1
  exact ⟨rfl,vs,upd_same,r.pres fun b u _ e=>by rw [upd_ne (ne_of_none e h)]; exact e⟩
theorem REnv.writeD (E:REnv K Pr H σ (.dic a kvs::ρ)) {vs:List (Key×V)} (r:DR K H vs ks):REnv K Pr (upd H a (.dK vs)) σ (.dic a ks::ρ):=by
 have pa:Pr a=none:=E.off a (by rw [owns_cons_dic]; exact List.mem_cons_self)
 have nd:=E.nd
 rw [owns_cons_dic] at nd
 obtain ⟨hn,nd'⟩:=List.nodup_cons.mp nd
 obtain ⟨us,ha,mu⟩:=E.at_own (a:=a) (by rw [owns_cons_dic]; exact List.mem_cons_self)
 have p:Pres H (upd H a (.dK vs)):=fun b u pu e=>by
  rw [upd_ne]; exact e
  rintro rfl
  rw [ha] at e; cases e; exact mu.no pu
 refine ⟨fun b u e=>?_,nd,fun b hb=>E.off b hb,?_⟩
 ·
  rw [upd_ne]; exact E.sub b u e
  rintro rfl
  rw [pa] at e; cases e
 ·
  have sl:=E.sl
  cases sl with
  | cons q t =>
   unfold Slot1 at q
   obtain ⟨e,_⟩:=q
   refine .cons ?_ (Paired.impMem t fun l hl s z=>z.pres p l fun b hbm=>?_)
   ·
    unfold Slot1
    exact ⟨e,vs,upd_same,r.pres p⟩
   ·
    rw [upd_ne]
    rintro rfl
    exact hn (mem_owns.mpr ⟨l,hl,hbm⟩)
theorem REnv.updDic {i:Nat} (E:REnv K Pr H σ ρ) (q:ρ[i]?=some (.dic a kvs)) {vs:List (Key×V)} (r:DR K H vs ks):REnv K Pr (upd H a (.dK vs)) σ (ρ.set i (.dic a ks)):=by
 have hs:=(E.dicAt q).1
 have hi:i < ρ.length:=(List.getElem?_eq_some_iff.mp q).1
 have E1:=(E.outL q hs).writeD r
 have E2:=E1.back (i:=i) (by simp [hi]) hs
 rw [List.set_set] at E2
 exact E2
end
section
variable {X:Cx} {b e:Expr} {pos p:Pos} {tb te:W L} {x:Str}
theorem Inv.dicOk {pins:List (Addr×Obj)} {σ:St} {H:Hp} {s:Shared} {a:Addr} {vs:List (Key×V)} (I:Inv X pins σ H s) (h:H a=some (.dK vs)):vs.length≤sizeLine∧(a == sysModules)=false∧∃ us,KV vs us∧s.heap.DictOf (mixKind X.prog X.w) a us:=I.hok a _ h
def wDIn (neg:Bool) (i:Nat) (tb:W L):W L:=fun ρ post=>tb ρ fun r ρ1=>toD r fun kd=>keyOf kd fun key=>dicV i ρ1 fun _ kvs=>post (.d (.bl (if neg then !(valD kvs key).isSome else (valD kvs key).isSome))) ρ1
theorem din_run {pins:List (Addr×Obj)} {σ:St} {H Pr:Hp} {s:Shared} {ρ:Ev} {i:Nat} {α:Type} {Q:α→Shared→Prop} {f:Value→Value→Sem α} {R:Bool→Ev→Prop} (hb:PL X b tb) (hN:X.N[i]?=some x) (hv:Vis X.env.scope x) (hd:(x == ("__debug__" : Str))=false) (hcd:(x == ("__classdict__" : Str))=false) (I:Inv X pins σ H s) (E:REnv X.K Pr H σ ρ)
  (h:tb ρ fun r ρ1=>toD r fun kd=>keyOf kd fun key=>dicV i ρ1 fun _ kvs=>R (valD kvs key).isSome ρ1)
  (hf:∀ (u:Value) (a:Addr) (key:Key) (s2:Shared) (H2:Hp) (ρ2:Ev) (us:List (Key×Value)) (c:Bool),Inv X pins σ H2 s2→REnv X.K Pr H2 σ ρ2→RelV (kV key) u→(a == sysModules)=false→s2.heap.DictOf (mixKind X.prog X.w) a us→(valueAt us key).isSome=c→R c ρ2→wpAny (model X.prog X.w) X.A (f u (.ref a)) Q X.xe s2) :
  wpAny (model X.prog X.w) X.A (eval b X.env) (fun v s₁=>wpAny (model X.prog X.w) X.A (eval (.Name x p) X.env) (fun u s₂=>wpAny (model X.prog X.w) X.A (f v u) Q X.xe s₂) X.xe s₁) X.xe s:=by
 refine thn (hb pins s σ H Pr ρ _ I E h) fun u s1 q=>?_
 obtain ⟨v,H2,kd,ρ2,I2,r2,E2,q2⟩:=EL.frz (post:=fun kd ρ1=>keyOf kd fun key=>dicV i ρ1 fun _ kvs=>R (valD kvs key).isSome ρ1) q
 obtain ⟨_,e1,p1⟩:=E2.head_d
 cases e1
 obtain ⟨key,rfl,r3,q3⟩:=keyOf_is q2 p1 r2
 obtain ⟨a,kvs,qd,q4⟩:=dicV_is q3
 obtain ⟨hσ,vs,hl,r⟩:=E2.tail.dicAt qd
 refine thn (pe_var hN hv hd hcd pins s1 σ H2 (fun v H'=>v=.ref a∧H2=H') I2 ⟨_,hσ,rfl,rfl⟩) fun u2 s2 ⟨y,H3,I3,rx,e1,e2⟩=>?_
 subst e1 e2
 cases rx
 obtain ⟨_,hS,us,rel,dd⟩:=I3.dicOk hl
 refine hf u a key s2 H2 ρ2 us _ I3 E2.tail r3 hS dd ?_ q4
 rw [← (rel.val key).isSome_eq]
 rcases r.val (k:=key) with ⟨z,z'⟩ | ⟨d,w,z1,z2,z3⟩
 ·
  rw [z,z']; rfl
 ·
  rw [z1,z2]; rfl
theorem pb_din (i:Nat) (hb:PL X b tb) (hm:behindInMarks .In (.Name x p)=false) (hN:X.N[i]?=some x:=by rfl) (hv:Vis X.env.scope x:=by first | exact Or.inl rfl | exact Or.inr (Or.inl rfl) | exact Or.inr (Or.inr rfl)) (hd:(x == ("__debug__" : Str))=false:=by decide)
  (hcd:(x == ("__classdict__" : Str))=false:=by decide):PB X (.Compare b [.In] [.Name x p] pos) (wTest (wDIn false i tb)):=fun pins s σ H Pr ρ post I E h =>
 wpAny_isTrue_Compare1 (din_run (R:=fun c ρ1=>post c ρ1) hb hN hv hd hcd I E h fun u a key s2 H2 ρ2 us c I2 E2 r3 hS dd e q=>wpAny_in_of (kV_is r3) hS dd.mapOf (by rw [e]; exact wpAny_truthy_bool ⟨H2,ρ2,I2.tok _,E2,q⟩)) hm
def wDSet (i:Nat) (tb te:W L):W Fl:=fun ρ post=>te ρ fun r ρ1=>toD r fun y=>dicV i ρ1 fun _ _=>tb ρ1 fun r ρ2=>toD r fun kd=>keyOf kd fun key=>dicV i ρ2 fun a kvs=>kvs.length < sizeLine∧post .nx (ρ2.set i (.dic a (putD kvs key y)))
theorem pm_dset (i:Nat) {ps:Pos} (hb:PL X b tb) (he:PL X e te) (hN:X.N[i]?=some x:=by rfl) (hv:Vis X.env.scope x:=by first | exact Or.inl rfl | exact Or.inr (Or.inl rfl) | exact Or.inr (Or.inr rfl)) (hd:(x == ("__debug__" : Str))=false:=by decide)
  (hcd:(x == ("__classdict__" : Str))=false:=by decide) (hs:swapsWith e (some (.Subscript (.Name x p) b ps)) pos.line X.env=pure false:=by rfl):PM X (.Assign [.Subscript (.Name x p) b ps] e pos) (wDSet i tb te):=by
 intro pins s σ H Pr ρ post I E h
 refine wpAny_Assign_Subscript (thn (he pins s σ H Pr ρ _ I E h) fun r s1 q=>?_) hs
 obtain ⟨v,H1,y,ρ1,I1,rv,E1,q1⟩:=EL.frz (post:=fun y ρ1=>dicV i ρ1 fun _ _=>tb ρ1 fun r ρ2=>toD r fun kd=>keyOf kd fun key=>dicV i ρ2 fun a kvs=>kvs.length < sizeLine∧post .nx (ρ2.set i (.dic a (putD kvs key y)))) q
 obtain ⟨a,kvs0,q0,q1⟩:=dicV_is q1
 have hσ:=(E1.tail.dicAt q0).1
 refine thn (pe_var hN hv hd hcd pins s1 σ H1 (fun v H'=>v=.ref a∧H1=H') I1 ⟨_,hσ,rfl,rfl⟩) fun u2 s2 ⟨z,H2,I2,rx,e1,e2⟩=>?_
 subst e1 e2
 cases rx
 refine thn (hb pins s2 σ H1 _ ρ1 _ I2 E1.tail.wide q1) fun u3 s3 q=>?_
 obtain ⟨kv,H3,kd,ρ3,I3,r3,E3,q3⟩:=EL.frz (post:=fun kd ρ2=>keyOf kd fun key=>dicV i ρ2 fun a kvs=>kvs.length < sizeLine∧post .nx (ρ2.set i (.dic a (putD kvs key y)))) q
 obtain ⟨_,e1,p1⟩:=E3.head_d
 cases e1
 obtain ⟨key,rfl,r4,q4⟩:=keyOf_is q3 p1 r3
 obtain ⟨a',kvs,qd,hlen,q5⟩:=dicV_is q4
 have E4:REnv X.K Pr H3 (some (kV key)::some v::σ) (.d kd::.d y::ρ3):=REnv.step (τ:=[some v]) (lam:=[.d y]) (w:=[some (kV key)]) (μ:=[.d kd]) E1 rfl E3 rfl
 obtain ⟨hσ',vs,hl,r⟩:=E4.tail.tail.dicAt qd
 rw [hσ] at hσ'
 cases hσ'
 obtain ⟨_,e2,p2⟩:=E4.tail.head_d
 cases e2
 obtain ⟨z,hS,us,rel,dd⟩:=I3.dicOk hl
 have hz:us.length≤sizeLine:=by rw [← rel.length]; exact z
 have hk:vs.length=kvs.length:=Paired.length r
 have hl':(putK vs key v).length≤sizeLine:=by have:=length_putK vs key v; omega
 refine wpAny_setItem_pairs (hsz:=hz) (kV_is r4) dd fun h' dd' hsb=>?_
 have he':∃ q,h'.get? a=some q:=let ⟨q,_,_,hq,_⟩:=dd'; ⟨q,hq⟩
 exact ⟨σ,_,_,I3.write (x:=a) (e:=a) (t':=_) (by rw [hl]; exact True.intro) (.inl rfl) (fun b q hb z=>(hsb.2 b hb).trans z) he' (show ObjOk X.prog X.w _ _ _ (.dK (putK vs key v)) from ⟨hl',hS,_,rel.put key rv,dd'⟩),E4.tail.tail.updDic qd (r.put p2),q5⟩
def wDct (kvs:List (Key×D)):W L:=fun ρ post=>∀ a,post (.dic a kvs) ρ
theorem pl_dct0:PL X (.Dict [] [] pos) (wDct []):=by
 intro pins s σ H Pr ρ post I E hq
 have hf:H s.heap.objs.size=none:=I.hok.fresh (Nat.le_refl _)
 have I1:=I.laid (a:=s.heap.objs.size) (o:=.dK []) (h':=s.heap.push { cls:=.type "dict",data:=.dict #[] }) (t':=s.toks) (fun _ _ q=>Heap.get?_push_of_some _ q) (Nat.le_refl _) ⟨Nat.zero_le _,I.past,[],.nil,Heap.DictOf.new s.heap⟩
 exact wpAny_Dict_empty ⟨.ref s.heap.objs.size,_,_,ρ,I1,rfl,E.cons_dic (kvs:=[]) hf .nil,hq _⟩
def flatC:D→Bool
 | .int _=>true
 | .str _=>true
 | .bl _=>true
 | .non=>true
 | _=>false
theorem Rep.flatC {K:PySem.W.Frag} {H H':Hp} {v:V} {d:D} (h:L2.flatC d=true) (r:Rep K H v d):Rep K H' v d:=by
 cases r with
 | int i=>exact .int i
 | str i=>exact .str i
 | bl i=>exact .bl i
 | non=>exact .non
 | _=>cases h
inductive DPs (X:Cx):List (Option Expr)→List Expr→List (Key×D)→Prop where
 | nil:DPs X [] [] []
 | int {k v:Expr} {ks:List (Option Expr)} {vs:List Expr} {i:Int} {d:D} {kvs:List (Key×D)} (hk:PL X k (wC (.int i))) (hv:PL X v (wC d)) (hf:flatC d=true) (t:DPs X ks vs kvs):DPs X (some k::ks) (v::vs) ((.inl i,d)::kvs)
 | str {k v:Expr} {ks:List (Option Expr)} {vs:List Expr} {y:Str} {d:D} {kvs:List (Key×D)} (hk:PL X k (wC (.str y))) (hv:PL X v (wC d)) (hf:flatC d=true) (t:DPs X ks vs kvs):DPs X (some k::ks) (v::vs) ((.inr y,d)::kvs)
theorem DPs.run {pos:Pos} {pins:List (Addr×Obj)} {σ:St} {Pr:Hp} {ρ:Ev}:∀ {ks:List (Option Expr)} {vs:List Expr} {kvs:List (Key×D)},DPs X ks vs kvs→∀ {H:Hp} {s:Shared} {Q:List (Value×Value)→Shared→Prop},Inv X pins σ H s→REnv X.K Pr H σ ρ →
  (∀ (H':Hp) (s':Shared) (us:List (Value×Value)) (ps:List (Key×V)) (qs:List (Key×Value)),Inv X pins σ H' s'→REnv X.K Pr H' σ ρ→Carries (mixKind X.prog X.w) us qs→KV ps qs→DR X.K H' ps kvs→Q us s') →
  wpAny (model X.prog X.w) X.A (evalPairs (pairTrees ks vs X.env pos)) Q X.xe s
 | _,_,_,.nil,H,s,Q,I,E,h=>pairTrees_nil_walk (h H s [] [] [] I E True.intro .nil .nil)
 | _,_,_,.int (d:=d) hk hv hf t,H,s,Q,I,E,h=>by
  refine pairTrees_cons_walk (thn (hk pins s σ H Pr ρ (fun r ρ'=>r=.d _∧ρ'=ρ) I E ⟨rfl,rfl⟩) fun u s1 ⟨v,H1,r,ρ',I1,rv,E1,e1,e2⟩=>?_)
  subst e1 e2
  refine thn (hv pins s1 σ H1 Pr _ (fun r ρ'=>r=.d d∧ρ'=_) I1 E1.tail ⟨rfl,rfl⟩) fun u2 s2 ⟨v2,H2,r2,ρ2,I2,rv2,E2,e1,e2⟩=>?_
  subst e1 e2
  obtain ⟨_,z1,p1⟩:=E1.head_d
  cases z1
  cases p1
  obtain ⟨_,z2,p2⟩:=E2.head_d
  cases z2
  exact DPs.run t I2 E2.tail fun H' s' us ps qs I3 E3 hc hk3 hd=>h H' s' ((u,u2)::us) ((.inl _,v2)::ps) ((.inl _,u2)::qs) I3 E3 ⟨kV_is rv,rfl,hc⟩ (.cons ⟨rfl,rv2⟩ hk3) (.cons ⟨rfl,p2.flatC hf⟩ hd)
 | _,_,_,.str (d:=d) hk hv hf t,H,s,Q,I,E,h=>by
  refine pairTrees_cons_walk (thn (hk pins s σ H Pr ρ (fun r ρ'=>r=.d _∧ρ'=ρ) I E ⟨rfl,rfl⟩) fun u s1 ⟨v,H1,r,ρ',I1,rv,E1,e1,e2⟩=>?_)
  subst e1 e2
  refine thn (hv pins s1 σ H1 Pr _ (fun r ρ'=>r=.d d∧ρ'=_) I1 E1.tail ⟨rfl,rfl⟩) fun u2 s2 ⟨v2,H2,r2,ρ2,I2,rv2,E2,e1,e2⟩=>?_
  subst e1 e2
  obtain ⟨_,z1,p1⟩:=E1.head_d
  cases z1
  cases p1
  obtain ⟨_,z2,p2⟩:=E2.head_d
  cases z2
  exact DPs.run t I2 E2.tail fun H' s' us ps qs I3 E3 hc hk3 hd=>h H' s' ((u,u2)::us) ((.inr _,v2)::ps) ((.inr _,u2)::qs) I3 E3 ⟨kV_is rv,rfl,hc⟩ (.cons ⟨rfl,rv2⟩ hk3) (.cons ⟨rfl,p2.flatC hf⟩ hd)
theorem DPs.len:∀ {ks:List (Option Expr)} {vs:List Expr} {kvs:List (Key×D)},DPs X ks vs kvs→ks.all (·.isSome)=true∧ks.length=vs.length∧ks.length=kvs.length
 | _,_,_,.nil=>⟨rfl,rfl,rfl⟩
 | _,_,_,.int _ _ _ t=>by
  obtain ⟨h1,h2,h3⟩:=t.len
  simp [h1,h2,← h3]
 | _,_,_,.str _ _ _ t=>by
  obtain ⟨h1,h2,h3⟩:=t.len
  simp [h1,h2,← h3]
theorem DR.keys {K:PySem.W.Frag} {H:Hp}:∀ {vs:List (Key×V)} {kvs:List (Key×D)},DR K H vs kvs→vs.map (·.1)=kvs.map (·.1)
 | _,_,.nil=>rfl
 | _::_,_::_,.cons h t=>by rw [List.map_cons,List.map_cons,DR.keys t,h.1]
end
end L2
namespace L2
open PySem PySem.Spec PyProof.Rows
section
variable {X:Cx}
variable {e:Expr} {p apos cpos:Pos} {te:W L} {x:Str}
end
end L2
namespace L2
open PySem PySem.Spec PyProof.Rows PySem.SeqAt
mutual
def sameOk:Nat→D→Bool
 | _,.non=>true
 | _,.bl _=>true
 | _,.int _=>true
 | _,.str _=>true
 | n+1,.tup xs=>sameOks n xs
 | n+1,.lst xs=>sameOks n xs
 | n+1,.dct m=>m == 0
 | _,_=>false
def sameOks:Nat→List D→Bool
 | _,[]=>true
 | n,x::xs=>sameOk n x && sameOks n xs
end
section
variable {X:Cx} {pins:List (Addr×Obj)} {σ:St} {H:Hp} {s:Shared}
end
end L2
namespace L2
open PySem PySem.Spec PyProof.Rows PySem.SeqAt
mutual
def sgnD:D→Nat
 | .int _=>602
 | .str x=>10*x.length+2
 | .tup xs=>sgnDs xs+3
 | .lst xs=>sgnDs xs+3
 | _=>6
def sgnDs:List D→Nat
 | []=>0
 | x::xs=>sgnD x+2+sgnDs xs
end
mutual
theorem sgn_is:∀ d:D,(toP d).leavesShort 601=true→(toP d).shown.length≤sgnD d
 | .non,_=>by decide
 | .bl b,_=>by cases b <;> decide
 | .int i,h=>by
  have e:(PyData.shown (.int i)).length≤601:=by simpa only [toP,PyData.leavesShort,decide_eq_true_eq] using h
  exact Nat.le_succ_of_le e
 | .str x,h=>by
  have hx:∀ c∈x.cps.toList,c < 16 ^ 8:=by simpa only [toP,PyData.leavesShort,List.all_eq_true,decide_eq_true_eq] using h
  have e:=PySem.StrLaws.reprText_len x hx
  simp only [toP,PyData.shown,sgnD]
  omega
 | .tup xs,h=>by
  have h1:=sgn_iss xs (by simpa only [toP,PyData.leavesShort] using h)
  have h2:=tupleText_len_le (PyData.shownAll (toPs xs))
  have h3:=PyData.shownAll_length (toPs xs)
  simp only [toP,PyData.shown,sgnD]
  omega
 | .lst xs,h=>by
  have h1:=sgn_iss xs (by simpa only [toP,PyData.leavesShort] using h)
  have h2:=listText_len_le (PyData.shownAll (toPs xs))
  have h3:=PyData.shownAll_length (toPs xs)
  simp only [toP,PyData.shown,sgnD]
  omega
 | .dct _,_=>by simp only [toP,sgnD]; decide
 | .exc _ _ _,_=>by simp only [toP,sgnD]; decide
 | .fn _ _,_=>by simp only [toP,sgnD]; decide
theorem sgn_iss:∀ ds:List D,PyData.leavesShortAll 601 (toPs ds)=true→((PyData.shownAll (toPs ds)).map (·.length)).sum+2*(toPs ds).length≤sgnDs ds
 | [],_=>by simp only [toPs,PyData.shownAll,List.map_nil,List.sum_nil,List.length_nil,sgnDs]; omega
 | d::ds,h=>by
  have h':(toP d).leavesShort 601=true∧PyData.leavesShortAll 601 (toPs ds)=true:=by simpa only [toPs,PyData.leavesShortAll,Bool.and_eq_true] using h
  have h1:=sgn_is d h'.1
  have h2:=sgn_iss ds h'.2
  simp only [toPs,PyData.shownAll,List.map_cons,List.sum_cons,List.length_cons,sgnDs]
  omega
end
structure ReprL (d:D):Prop where
 ok:okD 40 d=true
 sh:shortD d=true
 ln:(toP d).shown.length≤sizeLine
theorem ReprOk.l {d:D} (h:ReprOk d):ReprL d:=⟨h.ok,h.sh,h.len⟩
theorem ReprL.of {d:D} (h1:okD 40 d=true) (h2:shortD d=true) (h3:sgnD d≤16777216):ReprL d:=by
 refine ⟨h1,h2,Nat.le_trans (sgn_is d (PyData.leavesShort_of_canLay0 601 _ (okD_lay 40 d h1).1 (short_is d h2).1)) ?_⟩
 have e:sizeLine=16777216:=by decide
 rw [e]
 exact h3
section
variable {X:Cx}
end
end L2
namespace L2
open PySem PySem.Spec PyProof.Rows
section
variable {X:Cx} {b:Expr} {pos p:Pos} {tb:W L} {x:Str}
end
end L2
namespace L2
open PySem PySem.Spec PyProof.Rows PySem.W
section
variable {prog:Program} {w:World} {A:Around} {E:Value→Shared→Prop} {s:Shared} {r:Addr}
end
section
variable {prog:Program} {w:World} {A:Around} {s:Shared} {R:Result→Shared→Prop}
variable {I:Addr} {fp wr:List Addr} {G:Array GenState→Array GenState→Prop} {n:Nat} {P:Nat→Value→Prop} {St:Nat→Shared→Prop}
end
section
variable {prog:Program} {w:World} {A:Around} {E:Value→Shared→Prop} {s:Shared}
variable {I:Addr} {fp wr:List Addr} {G:Array GenState→Array GenState→Prop} {n:Nat} {P:Nat→Value→Prop} {St:Nat→Shared→Prop}
end
section
variable {X:Cx} {a:Expr} {p p0 pos pos0:Pos} {t:W L}
end
end L2
namespace L2
open PySem PySem.Spec PyProof.Rows
section
variable {X:Cx} {e:Expr} {p apos cpos:Pos} {te:W L} {x:Str}
end
end L2
namespace L2
open PySem PySem.Spec PyProof.Rows
section
variable {X:Cx} {p apos cpos:Pos} {x:Str}
end
end L2
namespace L2
open PySem PySem.Spec PyProof.Rows
section
variable {X:Cx}
end
end L2
namespace L2
open PySem PySem.Spec PyProof.Rows PySem.SeqAt
mutual
def okW:D→Bool
 | .dct n=>n == 0
 | .exc _ _ _=>false
 | .fn _ _=>false
 | .tup xs=>okWs xs
 | .lst xs=>okWs xs
 | .str x=>PyData.strOk x
 | _=>true
def okWs:List D→Bool
 | []=>true
 | x::xs=>okW x && okWs xs
end
section
variable {X:Cx} {pins:List (Addr×Obj)} {σ:St} {H:Hp} {s:Shared}
end
mutual
theorem okW_short:∀ d:D,okW d=true→shortD d=true→(toP d).leavesShort 601=true
 | .non,_,_=>rfl
 | .bl _,_,_=>rfl
 | .dct _,_,_=>rfl
 | .exc _ _ _,h,_=>by simp [okW] at h
 | .fn _ _,h,_=>by simp [okW] at h
 | .int i,_,h=>by
  have:=(short_is (.int i) h).1
  simpa only [toP,PyData.leavesShort,PyData.intsShort] using this
 | .str x,h,hs=>PyData.leavesShort_of_canLay0 601 (.str x) (by simpa only [okW,PyData.canLay0] using h) (short_is (.str x) hs).1
 | .tup xs,h,hs=>by
  have:=okWs_short xs (by simpa only [okW] using h) (by simpa only [shortD] using hs)
  simpa only [toP,PyData.leavesShort] using this
 | .lst xs,h,hs=>by
  have:=okWs_short xs (by simpa only [okW] using h) (by simpa only [shortD] using hs)
  simpa only [toP,PyData.leavesShort] using this
theorem okWs_short:∀ ds:List D,okWs ds=true→shortDs ds=true→PyData.leavesShortAll 601 (toPs ds)=true
 | [],_,_=>rfl
 | d::ds,h,hs=>by
  simp only [okWs,Bool.and_eq_true] at h
  simp only [shortDs,Bool.and_eq_true] at hs
  simp only [toPs,PyData.leavesShortAll,okW_short d h.1 hs.1,okWs_short ds h.2 hs.2,Bool.and_self]
end
structure StrW (d:D):Prop where
 ok:okW d=true
 sh:shortD d=true
 dp:(toP d).depth≤40
 sg:sgnD d≤16777216
 ni:∀ i,d≠.int i
theorem StrW.len {d:D} (h:StrW d):(toP d).shown.length≤sizeLine:=by
 have e:sizeLine=16777216:=by decide
 rw [e]
 exact Nat.le_trans (sgn_is d (okW_short d h.ok h.sh)) h.sg
section
variable {X:Cx}
end
end L2
namespace L2
open PySem PySem.Spec PyProof.Rows
section
variable {X:Cx} {x:Str} {p pos kpos:Pos}
def takeW (o:Option L) (i k:Nat) (ρ:Ev) (post:L→Ev→Prop):Prop:=match o with
 | some (.bx none ls)=>∃ l,ls[k]?=some l∧post l (ρ.set i (.bx none (ls.set k .un)))
 | some (.d (.tup ds))=>∃ d,ds[k]?=some d∧post (.d d) ρ
 | _=>False
theorem takeW_bx (ls:List L) (i k:Nat) (ρ:Ev) (post:L→Ev→Prop):takeW (some (.bx none ls)) i k ρ post=∃ l,ls[k]?=some l∧post l (ρ.set i (.bx none (ls.set k .un))):=(rfl)
theorem takeW_d (ds:List D) (i k:Nat) (ρ:Ev) (post:L→Ev→Prop):takeW (some (.d (.tup ds))) i k ρ post=∃ d,ds[k]?=some d∧post (.d d) ρ:=(rfl)
end
end L2
namespace L2
open PySem PySem.Spec PyProof.Rows
section
variable {X:Cx}
end
end L2
namespace L2
open PySem PySem.Spec PyProof.Rows
section
variable {X:Cx} {e:Expr} {p pos:Pos} {te:W L}
def tupOf (r:L) (ρ:Ev) (post:L→Ev→Prop):Prop:=match r with
 | .bx (some _) ls=>post (.bx none ls) ρ
 | _=>False
theorem tupOf_bx (a:Addr) (ls:List L) (ρ:Ev) (post:L→Ev→Prop):tupOf (.bx (some a) ls) ρ post=post (.bx none ls) ρ:=(rfl)
end
end L2
namespace L2
open PySem PySem.Spec PyProof.Rows PySem.W
theorem codeAmong_app {p:Pos} {a b:Int} {c cv:Value} (l:List Value) (h:TriplesOk l) (e:codeAmong p (l++[rawInt a,rawInt b,c])=some cv):codeAmong p l=some cv∨cv=c:=by
 fun_induction TriplesOk l with
 | case1 =>
  simp only [List.nil_append,codeAmong,rawInt] at e
  split at e
  ·
   cases e; exact .inr rfl
  ·
   cases e
 | case2 a' t b' u x rest ih =>
  simp only [List.cons_append,codeAmong] at e ⊢
  split at e
  ·
   rename_i hc; rw [if_pos hc]; exact .inl e
  ·
   rename_i hc; rw [if_neg hc]; exact ih h e
 | case3 l h1 h2=>exact h.elim
theorem clOf_none {cells:List (Str×Addr)}:∀ (names:List (Str×NameKind)) (acc:List (Str×Addr)),(names.filter fun p=>p.2 == .free)=[]→clOf cells names acc=acc
 | [],_,_=>rfl
 | (n,k)::r,acc,h=>by
  rw [List.filter_cons] at h
  unfold clOf
  by_cases hk:(k == NameKind.free)=true
  ·
   rw [if_pos hk] at h; cases h
  ·
   rw [if_neg hk] at h
   rw [if_neg hk]
   exact clOf_none r acc h
theorem clOf_one {cells:List (Str×Addr)} {y:Str} {c:Addr} (hc:cells.lookup y=some c):∀ (names:List (Str×NameKind)) (acc:List (Str×Addr)),(names.filter fun p=>p.2 == .free)=[(y,.free)]→clOf cells names acc=(y,c)::acc
 | [],_,h=>by cases h
 | (n,k)::r,acc,h=>by
  rw [List.filter_cons] at h
  unfold clOf
  by_cases hk:(k == NameKind.free)=true
  ·
   rw [if_pos hk] at h
   simp only [List.cons.injEq,Prod.mk.injEq] at h
   obtain ⟨⟨h1,h2⟩,h3⟩:=h
   subst h1
   rw [if_pos hk,hc]
   exact clOf_none r _ h3
  ·
   rw [if_neg hk] at h
   rw [if_neg hk]
   exact clOf_one hc r acc h
section
variable {X:Cx} {pins:List (Addr×Obj)} {σ:St} {H:Hp} {s:Shared}
theorem lam_make {x:Str} {c0 P c:Addr} {y:Str} {pr:Arguments} {bd:Expr} {sc:Scope} {pos:Pos} {Q:Value→Shared→Prop} {E:Value→Shared→Prop} {A:Around}
  (I:Inv X pins σ H s) (hx:x∈lamNames) (ht:tabIn X.K x=some (c0,P)) (hcode:X.env.code=.ref c0) (hq:X.env.qual++"<lambda>"=lamQ x) (hcl:closureFor sc X.env=pure [(y,c)]) (hdef:defaultsOf pr X.env=([],[]))
  (h:∀ (f c':Addr) (oq:Obj) (H':Hp) (s':Shared) (ctv pm:Value),Inv X pins σ H' s'→(∀ b o,H b=some o→H' b=some o)→s'.heap.get? f=some (kla_obj "<lambda>" (lamQ x) pr bd sc [(y,c)] pm c' ctv)→H' f=none→s.heap.objs.size≤f →
   H' c'=some (.frz oq (.own c'))→CodeOb oq (lamQ x)→Q (.ref f) s'):wpAny (model X.prog X.w) A (eval (.Lambda pr bd sc pos) X.env) Q E s:=by
 have hP:=I.tbs x hx c0 P ht
 obtain ⟨ps,eP,tr,among⟩:=id (I.hok P _ hP)
 have C:CodeHd s.heap c0 P:=(I.ok.mod.cds x hx c0 P ht).keeps I.bk
 have hg:s.heap.Ns mainGlobals X.mg:=I.ok.mod.glob.keeps I.bk
 obtain ⟨bm,ob,b1,b2,b3,b4,b5,b6⟩:=I.ok.mod.bmn
 have hbk:=I.bk bm ob b3
 have hgP:mainGlobals≠P:=fun z=>by
  obtain ⟨o,es,ep,e,hd,_⟩:=hg
  rw [z,eP] at e; cases e; cases hd
 have hbP:bm≠P:=fun z=>by
  rw [z,eP] at hbk; cases hbk; cases b4
 have hbG:bm≠mainGlobals:=fun z=>by
  obtain ⟨o,es,ep,e,hd,_⟩:=hg
  rw [z,e] at hbk; cases hbk; rw [hd] at b6; cases b6
 refine kla_eval hdef ?_
 rw [hq]
 cases q:codeAmong pos ps.toList with
 | none =>
  refine kla_makeFunction (mg:=X.mg) hcl I.ok.glob hg hcode C eP tr q hgP ⟨bm,ob,b1,b2,hbG,hbP,hbk,b4,b5,b6⟩ fun c' ctv h' tk hx' hge hlt hrec htb=>?_
  obtain ⟨c2,oq,vs,t,e2,hoc,hd,hv⟩:=hrec
  cases e2
  have hn:H c'=none:=I.hok.fresh hge
  have nP:∀ b,H b=none→b≠P:=fun b n z=>by rw [z,hP] at n; cases n
  have old:∀ b o,b≠P→s.heap.get? b=some o→(h'.push (kla_obj "<lambda>" (lamQ x) pr bd sc [(y,c)] ((X.mg "__name__").getD .none) c' ctv)).get? b=some o:=fun b o nb e=>Heap.get?_push_of_some _ (hx' b o nb e)
  have up:∀ b u,H b=some u→upd H c' (.frz oq (.own c')) b=some u:=fun b u e=>by rw [upd_ne (ne_of_none e hn)]; exact e
  have co:CodeOb oq (lamQ x):=⟨vs,t,hd,hv⟩
  have J:Inv X pins σ (upd H c' (.frz oq (.own c'))) { s with heap:=h'.push (kla_obj "<lambda>" (lamQ x) pr bd sc [(y,c)] ((X.mg "__name__").getD .none) c' ctv),toks:=tk }:=by
   refine I.un ⟨fun b o e n _ _=>old b o (nP b n) e,fun b o e n _ _=>⟨o.slots,old b o (nP b n) e⟩,fun b o e n _=>?_,fun b o e _=>?_,fun b xs e=>up b _ e,fun b o u e=>up b _ e,fun b t e=>up b _ e⟩ fun b u e=>?_
   ·
    rw [upd_ne (Nat.ne_of_lt (Nat.lt_of_lt_of_le (Heap.lt_size e) hge))]; exact n
   ·
    by_cases z:b=P
    ·
     subst z; exact ⟨_,Heap.get?_push_of_some _ htb⟩
    ·
     exact ⟨o,old b o z e⟩
   ·
    by_cases z:b=c'
    ·
     subst z
     rw [upd_same] at e; cases e
     exact ⟨Heap.get?_push_of_some _ hoc,⟨_,Heap.get?_push_of_some _ hoc⟩⟩
    ·
     rw [upd_ne z] at e
     by_cases zP:b=P
     ·
      subst zP
      rw [hP] at e; cases e
      refine ⟨_,Heap.get?_push_of_some _ htb,?_,fun pos' cv hc'=>?_⟩
      ·
       rw [Array.toList_append]; exact TriplesOk_snoc _ _ _ _ tr
      ·
       rw [Array.toList_append] at hc'
       rcases codeAmong_app _ tr hc' with z1 | z1
       ·
        obtain ⟨c3,o3,a1,a2,a3⟩:=among pos' cv z1
        exact ⟨c3,o3,a1,up _ _ a2,a3⟩
       ·
        exact ⟨c',oq,z1,upd_same,co⟩
     ·
      refine (I.hok b u e).stay (fun d v hd z2=>old d v ?_ z2) (fun d z2=>up d _ z2) (fun d xs z2=>up d _ z2) fun d od _ _ z2=>up d _ z2
      rcases hd with rfl | hd
      ·
       exact zP
      ·
       intro z3; rw [z3,hP] at hd; cases hd
  exact h _ c' oq _ _ ctv _ J up (Heap.get?_push_size _ rfl) (by rw [upd_ne (Nat.ne_of_gt hlt)]; exact I.hok.fresh (Nat.le_trans hge (Nat.le_of_lt hlt))) (Nat.le_trans hge (Nat.le_of_lt hlt)) upd_same co
 | some cv =>
  obtain ⟨c',oq,rfl,hz,co⟩:=among pos cv q
  refine kla_makeFunctionHit (mg:=X.mg) hcl I.ok.glob hg hcode C eP tr q ⟨bm,ob,b1,b2,hbG,hbP,hbk,b4,b5,b6⟩ fun ctv h' tk hk hsz=>?_
  exact h _ c' oq H _ ctv _ (I.kept fun b o e=>Heap.get?_push_of_some _ (hk b o e)) (fun _ _ e=>e) (Heap.get?_push_size _ rfl) (I.hok.fresh hsz) hsz hz co
end
end L2
namespace L2
open PySem PySem.Spec PyProof.Rows PySem.W
def LamAt (K:Frag) (H:Hp) (h:Heap) (f:Addr) (x:Str) (d:D):Prop:=∃ (c c':Addr) (oc oq:Obj) (y:Str) (pr:Arguments) (bd:Expr) (sc:Scope) (pos:Pos) (pm ctv u:Value) (v:V),
 lamIn K x=some (pr,bd,sc,pos)∧h.get? f=some (kla_obj "<lambda>" (lamQ x) pr bd sc [(y,c)] pm c' ctv)∧h.get? c'=some oq∧CodeOb oq (lamQ x)∧h.get? c=some oc∧(H c=none∨∃ o,H c=some (.frz o (.own c)))∧oc.data=.cell (some u)∧RelV v u∧(y,NameKind.free)∈sc.names∧Rep K H v d
theorem Rep.lamAt {K:Frag} {H:Hp} {P:Program} {w:World} {h:Heap} {f:Addr} {x:Str} {d:D} (r:Rep K H (.ref f) (.fn x d)) (ok:HOk P w H h):LamAt K H h f x d:=by
 cases r with
 | fn hl hf hq hc hz hd hv hm r =>
  exact ⟨_,_,_,_,_,_,_,_,_,_,_,_,_,hl,(ok _ _ hf).1,(ok _ _ hq).1,hc,(ok _ _ hz).1,.inr ⟨_,hz⟩,hd,hv,hm,r⟩
def cxLam (P:Program) (w:World) (K:Frag) (mg:Str→Option Value) (base:Heap) (p y:Str) (qual:Str) (sc:Scope) (f c':Addr) (cl:List (Str×Addr)) (A:Around) (outer:List Env) (s:Shared) (H:Hp):Cx where
 prog:=P
 w:=w
 K:=K
 mg:=mg
 base:=base
 A:=A.deeper (envX qual sc s.heap.objs.size f (.ref c') cl)
 N:=[p,y]
 s₀:=s
 H₀:=H
 env:=envX qual sc s.heap.objs.size f (.ref c') cl
 outer:=outer
 stack:=envX qual sc s.heap.objs.size f (.ref c') cl::outer
 ex:=[]
 calm:=true
 fn:=fun _=>false
 pn:=[]
 xe:=fun _ _=>False
structure LamSc (p y:Str) (pr:Arguments) (bd:Expr) (sc:Scope):Prop where
 par:sc.names.lookup p=some .local
 fre:sc.names.lookup y=some .free
 nc:∀ z∈sc.names,z.2≠.cell
 one:∀ z,(z,NameKind.free)∈sc.names→z=y
 co:sc.isCoroutine=false
 gen:sc.isGenerator=false
 kind:sc.kind=.function
 bind:∀ (q:Str) (cl:List (Str×Addr)) (pm cdv ct u:Value),bindArgs (kla_fn "<lambda>" q pr bd sc cl pm cdv ct) ⟨[u],[]⟩=pure [(p,u)]
def isDk (r:L) (k:D→Prop):Prop:=match r with
 | .d z=>k z
 | _=>False
theorem isDk_is {r:L} {k:D→Prop} (h:isDk r k):∃ z,r=.d z∧k z:=by
 cases r with
 | d z=>exact ⟨z,rfl,h⟩
 | _=>exact h.elim
structure LamOk (P:Program) (w:World) (K:Frag) (mg:Str→Option Value) (base:Heap) (k:Nat) (x:Str) (fs:FS):Prop where
 run:∀ (A:Around) (outer:List Env) (s:Shared) (H:Hp) (f:Addr) (u:Value) (v:V) (a d:D) (post:D→Prop),Room k A→Env0 P w K mg base A outer s H→RelV v u→Rep K H v a→LamAt K H s.heap f x d→fs [.d a,.d d] (fun r _=>isDk r post) →
  codeAny (model P w) A (.call (.ref f) ⟨[u],[]⟩) (CR CX0 outer P w H s (fun v H'=>(∀ b o,H b=some o→H' b=some o)∧∃ z,Rep K H' v z∧post z) E0) s
theorem inv_lam {P:Program} {w:World} {K:Frag} {mg:Str→Option Value} {base:Heap} {p y:Str} {qual:Str} {pr:Arguments} {bd:Expr} {sc:Scope} {f c c':Addr} {A:Around} {outer:List Env} {s:Shared} {H:Hp} {h1:Heap} {tk:Nat} {u u':Value} {v v':V} {oc:Obj}
  (S:LamSc p y pr bd sc) (hd:A.handled=none) (e0:Env0 P w K mg base A outer s H) (r:RelV v u) (r':RelV v' u') (gc:s.heap.get? c=some oc) (dc:oc.data=.cell (some u')) (hc:H c=none∨∃ o,H c=some (.frz o (.own c)))
  (hns:h1.Ns s.heap.objs.size fun z=>[(p,u)].reverse.lookup z) (k:∀ b o,s.heap.get? b=some o→h1.get? b=some o) :
  Inv (cxLam P w K mg base p y qual sc f c' [(y,c)] A outer s H) [] [some v,some v'] H { s with heap:=h1,toks:=tk }:=by
 have hpy:p≠y:=fun z=>by have:=S.par; rw [z,S.fre] at this; cases this
 have one:∀ z d,([(y,c)]:List (Str×Addr)).lookup z=some d→z=y∧d=c:=fun z d e=>by
  rw [List.lookup_cons] at e
  cases q:z == y with
  | true=>rw [q] at e; cases e; exact ⟨eq_of_beq q,rfl⟩
  | false=>rw [q] at e; cases e
 have at_y:([(y,c)]:List (Str×Addr)).lookup y=some c:=by rw [List.lookup_cons,beq_self_eq_true]
 have noA:∀ b:Addr,b∉(cxLam P w K mg base p y qual sc f c' [(y,c)] A outer s H).ex:=fun b z=>absurd (show b∈([]:List Addr) from z) (by simp)
 refine ⟨⟨e0.mod,S.kind,rfl,rfl,Nat.le_refl _,fun a b d h1 h2=>?_,fun z hz=>?_,fun z d hf _=>absurd (show false=true from hf) (by decide),fun _=>hd,Around.frames_deeper e0.frames,.inr ⟨rfl,rfl⟩,fun b z=>absurd z (noA b),e0.bs,e0.bsz,fun b _ _=>noA b,fun b z=>absurd z (noA b),e0.funs,e0.frf,e0.tbs⟩,
  rfl,e0.bare,Un.kept k,⟨_,hns,fun i z v2 h1 h2 h3=>?_⟩,fun z d h=>?_,e0.hok.fresh (Nat.le_refl _),fun z d h=>?_,fun q hq=>absurd (show q∈([]:List (Addr×Obj)) from hq) (by simp),e0.hok.kept k,rfl⟩
 ·
  exact (one a d h1).1.trans (one b d h2).1.symm
 ·
  have hz:sc.names.lookup z=some .cell∨sc.names.lookup z=some .free:=hz
  rcases hz with hz | hz
  ·
   exact absurd rfl (S.nc _ (PySem.mem_of_lookup hz))
  ·
   rw [S.one z (PySem.mem_of_lookup hz)]; exact ⟨c,at_y⟩
 ·
  match i,h1,h2 with
  | 0,h1,h2 =>
   have e1:p=z:=Option.some.inj h1
   have e2:v=v2:=by simpa using h2
   subst e1 e2
   exact ⟨u,r,.inl ⟨S.par,by simp⟩⟩
  | 1,h1,h2 =>
   have e1:y=z:=Option.some.inj h1
   have e2:v'=v2:=by simpa using h2
   subst e1 e2
   exact ⟨u',r',.inr ⟨.inr S.fre,c,at_y,oc,k c oc gc,dc⟩⟩
  | n+2,h1,h2=>simp at h2
 ·
  obtain ⟨_,rfl⟩:=one z d h
  exact ⟨_,oc,k d oc gc,dc⟩
 ·
  obtain ⟨_,rfl⟩:=one z d h
  exact hc.imp id fun z=>⟨rfl,z⟩
theorem lam_ok {P:Program} {w:World} {K:Frag} {mg:Str→Option Value} {base:Heap} {k:Nat} {x p y:Str} {pr:Arguments} {bd:Expr} {sc:Scope} {pos:Pos} {fs:FS} (hl:lamIn K x=some (pr,bd,sc,pos)) (S:LamSc p y pr bd sc) (t:W L)
  (hbody:∀ (A:Around) (outer:List Env) (s:Shared) (H:Hp) (f c c':Addr),Room k (A.deeper (envX (lamQ x) sc s.heap.objs.size f (.ref c') [(y,c)]))→PL (cxLam P w K mg base p y (lamQ x) sc f c' [(y,c)] A outer s H) bd t)
  (h:∀ a d post,fs [.d a,.d d] post→t [.d a,.d d] fun r _=>post r []):LamOk P w K mg base (k+1) x fs:=by
 refine ⟨fun A outer s H f u v a d post hr e0 rv ra la hf=>?_⟩
 obtain ⟨c,c',oc,oq,y',pr',bd',sc',pos',pm,ctv,u',v',hl',gf,gq,hq,gc,hc,dc,rv',hm,rd⟩:=la
 rw [hl] at hl'; cases hl'
 obtain rfl:=S.one y' hm
 obtain ⟨vs,tq,hd1,hd2⟩:=hq
 have lim:s.heap.NoLimit:=e0.mod.nolimit.keeps fun b o e=>(e0.bs b o e).1
 refine kla_callFunE hr.depth gf rfl S.co S.gen rfl ⟨c',oq,vs,tq,rfl,gq,hd1,hd2⟩ ?_
 rw [S.bind]
 refine wpAny_pure (wpAny_newFunctionEnv S.nc (fun z hz=>by
  have:z=(p,u):=by simpa using hz
  subst this; exact S.par) (fun h₁ hns hsb=>⟨lim.fresh _ hsb,?_⟩) S.kind)
 have hk₁:∀ b o,s.heap.get? b=some o→h₁.get? b=some o:=fun b o e=>hsb.extBut b o (Nat.ne_of_lt (Heap.lt_size e)) (Heap.get?_push_of_some _ e)
 show codeAny _ _ (.expr bd (envX (lamQ x) sc s.heap.objs.size f (.ref c') [(y',c)])) _ _
 have I:=inv_lam (P:=P) (w:=w) (K:=K) (mg:=mg) (base:=base) (qual:=lamQ x) (f:=f) (c':=c') (tk:=s.toks+[(p,u)].length) S hr.hd e0 rv rv' gc dc hc hns hk₁
 have E:REnv K H H [some v,some v'] [.d a,.d d]:=⟨fun _ _ e=>e,List.nodup_nil,fun a ha=>absurd (show a∈([]:List Addr) from ha) (by simp),.cons ⟨v,rfl,ra⟩ (.cons ⟨v',rfl,rd⟩ .nil)⟩
 refine kla_codeExpr (wpAny_mono (hbody A outer s H f c c' (hr.deeper _) [] _ _ H H _ (fun r _=>isDk r post) I E (h a d _ hf)) (fun v2 s' hs=>?_) fun e s' hs=>(show False from hs).elim)
 obtain ⟨v3,H',r,ρ',J,rv3,E',q⟩:=hs
 obtain ⟨z,rfl,hp⟩:=isDk_is q
 obtain ⟨w3,e3,rz⟩:=E'.head_d
 cases e3
 exact ⟨v3,H',J.os,J.bare,J.base,J.hok,rv3,E'.sub,z,rz,hp⟩
def datV (i:Nat) (ρ:Ev) (k:D→Prop):Prop:=match ρ[i]? with
 | some (.d x)=>k x
 | _=>False
theorem datV_is {i:Nat} {ρ:Ev} {k:D→Prop} (h:datV i ρ k):∃ x,ρ[i]?=some (.d x)∧k x:=by
 unfold datV at h
 split at h
 ·
  rename_i x q; exact ⟨x,q,h⟩
 ·
  exact h.elim
def fnV (x:Str) (d:D) (k:D→Prop):Prop:=match d with
 | .fn z d=>z=x∧k d
 | _=>False
theorem fnV_is {x:Str} {d:D} {k:D→Prop} (h:fnV x d k):∃ e,d=.fn x e∧k e:=by
 cases d with
 | fn z e=>obtain ⟨rfl,h⟩:=h; exact ⟨e,rfl,h⟩
 | _=>exact h.elim
def wCallFn (fs:FS) (x:Str) (i:Nat) (t:W L):W L:=fun ρ post=>datV i ρ fun g=>fnV x g fun d=>t ρ fun r ρ1=>toD r fun a=>fs [.d a,.d d] fun r _=>isDk r fun z=>post (.d z) ρ1
section
variable {X:Cx} {k:Nat} {x n:Str} {fs:FS} {p pos:Pos} {e:Expr} {t:W L}
theorem pl_callFn (L:LamOk X.prog X.w X.K X.mg X.base k x fs) (hr:Room k X.A) (i:Nat) (ha:PL X e t) (hN:X.N[i]?=some n:=by rfl) (hv:Vis X.env.scope n:=by first | exact Or.inl rfl | exact Or.inr (Or.inl rfl) | exact Or.inr (Or.inr rfl)) (hd:(n == ("__debug__" : Str))=false:=by decide)
  (hcd:(n == ("__classdict__" : Str))=false:=by decide) (hs:starEach [e] X.env=(false,eval e X.env)::starEach [] X.env:=by rfl) :
  PL X (.Call (.Name n p) [e] [] pos) (wCallFn fs x i t):=by
 intro pins s σ H Pr ρ post I E0 h
 obtain ⟨g,qi,h⟩:=datV_is h
 obtain ⟨d,eg,hh⟩:=fnV_is h
 clear h
 subst eg
 obtain ⟨sv,hsl,w,rfl,rw⟩:=E0.slot qi
 obtain ⟨f,rfl⟩:∃ f,w=.ref f:=by cases rw; exact ⟨_,rfl⟩
 refine wpAny_Call_Name_kw (thn (pe_var hN hv hd hcd pins s σ H (fun w H'=>w=.ref f∧H'=H) I ⟨.ref f,hsl,rfl,rfl⟩) fun u s1 ⟨w,H1,I1,r1,e1,e2⟩=>?_)
 subst e1 e2
 cases r1
 have E1:=E0.cons_d rw
 have fnAt:∀ {H':Hp} {s':Shared},Inv X pins σ H' s'→Rep X.K H' (.ref f) (.fn x d)→FnAt f s'.heap:=fun I' r'=>by
  obtain ⟨_,_,_,_,_,_,_,_,_,_,_,_,_,_,gf,_⟩:=r'.lamAt I'.hok
  exact ⟨_,_,_,_,gf⟩
 refine callWith_F (fnAt I1 rw) ?_ hs rfl
 rw [hs]
 show wpAny _ _ (spliced ((false,eval e X.env)::backTo pos (starEach [] X.env))) _ _ s1
 refine Calls.spliced_cons (thn (ha pins s1 σ _ _ ρ (fun r ρ1=>toD r fun a=>fs [.d a,.d d] fun r _=>isDk r fun z=>post (.d z) ρ1) I1 E1.tail.wide hh) fun u s2 hq=>?_)
 obtain ⟨v,H2,a,ρ2,I2,rv,E2,q2⟩:=EL.frz (post:=fun a ρ1=>fs [.d a,.d d] fun r _=>isDk r fun z=>post (.d z) ρ1) hq
 have E3:REnv X.K Pr H2 ([some v]++(some (.ref f)::σ)) ([.d a]++(.d (.fn x d)::ρ2)):=REnv.step (τ:=[some (.ref f)]) (lam:=[.d (.fn x d)]) (w:=[some v]) (μ:=[.d a]) E1 rfl E2 rfl
 obtain ⟨_,e5,ra⟩:=REnv.head_d (v:=some v) (x:=a) E3
 cases e5
 have E4:REnv X.K Pr H2 (some (.ref f)::σ) (.d (.fn x d)::ρ2):=REnv.tail (v:=some v) (l:=.d a) E3
 obtain ⟨_,e6,rf⟩:=E4.head_d
 cases e6
 refine Calls.spliced_nil ⟨fnAt I2 rf,?_⟩
 refine wpAny_call (codeAny_mono (L.run X.A X.stack s2 H2 f u v a d (fun z=>post (.d z) ρ2) hr I2.env0 rv ra (rf.lamAt I2.hok) q2) fun res s' hq=>?_)
 cases res with
 | error e=>exact (show False from hq).elim
 | ok fl =>
  cases fl with
  | ret u2 =>
   obtain ⟨v3,H3,I3,rv3,ext,z,rz,pz⟩:=I2.after hq
   exact ⟨v3,H3,.d z,ρ2,I3,rv3,(E4.tail.exten ext).cons_d rz,pz⟩
  | next=>exact False.elim hq
  | brk=>exact False.elim hq
  | cont=>exact False.elim hq
end
end L2
namespace L2
open PySem PySem.Spec PyProof.Rows PySem.W
theorem Un.one {P:Program} {w:World} {fs:List Addr} {H H':Hp} {h h':Heap} {c:Addr} {oc:Obj} (hc:H c=none) (gc:h.get? c=some oc) (cc:∀ q,¬ CodeOb oc q) (u:Un fs [] (upd H c (.frz oc (.own c))) H' h h') (ok:HOk P w H' h') :
  Un fs [] H (del H' c) h h'∧HOk P w (del H' c) h':=by
 have zc:H' c=some (.frz oc (.own c)):=u.frzs c oc _ upd_same
 have gc':h'.get? c=some oc:=(ok c _ zc).1
 have nz:∀ b o,H' b=some o→o≠.frz oc (.own c)→b≠c:=fun b o e n z=>by subst z; rw [zc] at e; cases e; exact n rfl
 refine ⟨⟨fun b o e n hb hx=>?_,fun b o e n hb hx=>?_,fun b o e n hx=>?_,fun b o e hx=>u.there b o e hx,fun b xs e=>?_,fun b o v e=>?_,fun b t e=>?_⟩,fun b o e=>?_⟩
 ·
  by_cases z:b=c
  ·
   subst z; rw [gc] at e; cases e; exact gc'
  ·
   exact u.keep b o e (by rw [upd_ne z]; exact n) hb hx
 ·
  by_cases z:b=c
  ·
   subst z; rw [gc] at e; cases e; exact ⟨oc.slots,gc'⟩
  ·
   exact u.slot b o e (by rw [upd_ne z]; exact n) hb hx
 ·
  by_cases z:b=c
  ·
   subst z; exact del_self
  ·
   rw [del_ne z]; exact u.free b o e (by rw [upd_ne z]; exact n) hx
 ·
  have z:=ne_of_none e hc
  rw [del_ne z]; exact u.tups b xs (by rw [upd_ne z]; exact e)
 ·
  have z:=ne_of_none e hc
  rw [del_ne z]; exact u.frzs b o v (by rw [upd_ne z]; exact e)
 ·
  have z:=ne_of_none e hc
  rw [del_ne z]; exact u.tbls b t (by rw [upd_ne z]; exact e)
 ·
  have hb:b≠c:=fun z=>by subst z; rw [del_self] at e; cases e
  rw [del_ne hb] at e
  refine (ok b o e).stay (fun _ _ _ z=>z) (fun d z=>?_) (fun d xs z=>?_) fun d od q co z=>?_
  ·
   rw [del_ne (nz d _ z fun y=>nomatch y)]; exact z
  ·
   rw [del_ne (nz d _ z fun y=>nomatch y)]; exact z
  ·
   rw [del_ne (nz d _ z fun y=>by cases y; exact cc q co)]; exact z
mutual
theorem Rep.lite {K:Frag} {H H':Hp} (k:∀ b xs,H b=some (.tup xs)→H' b=some (.tup xs)) (k2:∀ b o xs,H b=some (.frz o (.tup xs))→H' b=some (.frz o (.tup xs))):∀ {v:V} {d:D},noL d=true→Rep K H v d→Rep K H' v d
 | _,_,_,.non=>.non
 | _,_,_,.bl b=>.bl b
 | _,_,_,.int i=>.int i
 | _,_,_,.str x=>.str x
 | _,_,h,.tup hs r=>.tup (by
   rcases hs with (e | ⟨o,e⟩) | e
   ·
    exact .inl (.inl (k _ _ e))
   ·
    exact .inl (.inr ⟨o,k2 _ _ _ e⟩)
   ·
    exact .inr e) (Reps.lite k k2 (by simpa [noL] using h) r)
 | _,_,h,.lst _ _=>by simp [noL] at h
 | _,_,h,.dct _=>by simp [noL] at h
 | _,_,h,.exc _ _ _ _ _ _ _ _=>by simp [noL] at h
 | _,_,h,.fn _ _ _ _ _ _ _ _ _=>by simp [noL] at h
theorem Reps.lite {K:Frag} {H H':Hp} (k:∀ b xs,H b=some (.tup xs)→H' b=some (.tup xs)) (k2:∀ b o xs,H b=some (.frz o (.tup xs))→H' b=some (.frz o (.tup xs))):∀ {vs:List V} {ds:List D},noLs ds=true→Reps K H vs ds→Reps K H' vs ds
 | _,_,_,.nil=>.nil
 | _,_,h,.cons r t=>by
  simp only [noLs,Bool.and_eq_true] at h
  exact .cons (Rep.lite k k2 h.1 r) (Reps.lite k k2 h.2 t)
end
structure LamIn (X:Cx) (x y:Str) (i:Nat) (pr:Arguments) (bd:Expr) (sc:Scope) (pos:Pos):Prop where
 mem:x∈lamNames
 tab:∃ c0 P,tabIn X.K x=some (c0,P)∧X.env.code=.ref c0
 lam:lamIn X.K x=some (pr,bd,sc,pos)
 qual:X.env.qual++"<lambda>"=lamQ x
 deft:defaultsOf pr X.env=([],[])
 fre:(sc.names.filter fun p=>p.2 == .free)=[(y,.free)]
 at_i:X.N[i]?=some y
 cel:X.env.scope.names.lookup y=some .cell
 fn:X.fn y=true
def wCallXL (fs:FSX) (xp:Xc→Prop) (x:Str) (i:Nat) (t:W L):W L:=fun ρ post=>t ρ fun r ρ1=>toD r fun a=>datV i ρ1 fun d=>fs [a,.fn x d] (fun r=>r=.d .non∧post (.d .non) ρ1) (fun z=>noLs z.ds=true∧xp z)
section
variable {X:Cx} {k n:Nat} {f:Addr} {fd:FuncData} {ps:List Str} {fs:FSX} {g x y:Str} {p cpos pos:Pos} {e:Expr} {t:W L} {xp:Xc→Prop} {pr:Arguments} {bd:Expr} {sc:Scope}
theorem pl_callXL (F:FnOk X.prog X.w X.K X.mg X.base (CXr X.prog X.w) k f fd ps (spX X.K 2 fs)) (hr:Room k X.A) (hg:Gl X g) (hm:X.mg g=some (.ref f)) (hk:PySem.W.keepIn X.K (.ref f)=true) (hb:Binds X.K fd ps []) (hx:XOK X xp)
  (i:Nat) (LI:LamIn X x y i pr bd sc pos) (ha:PL X e t) (hdb:(g == ("__debug__" : Str))=false:=by decide) (he:starEach [e,.Lambda pr bd sc pos] X.env=(false,eval e X.env)::starEach [.Lambda pr bd sc pos] X.env:=by rfl)
  (he2:starEach [.Lambda pr bd sc pos] X.env=(false,eval (.Lambda pr bd sc pos) X.env)::starEach [] X.env:=by rfl) :
  PL X (.Call (.Name g p) [e,.Lambda pr bd sc pos] [] cpos) (wCallXL fs xp x i t):=by
 intro pins s σ H Pr ρ post I E0 h
 obtain ⟨c0,P,tab,code⟩:=LI.tab
 refine wpAny_Call_Name_kw (ld_glob I hg hm ?_ hdb)
 refine PySem.W.callWith_K (h₀:=X.base) I.ok.mod.kin hk ?_ he (by rw [he2]; rfl)
 rw [he]
 show wpAny _ _ (spliced ((false,eval e X.env)::backTo cpos (starEach [.Lambda pr bd sc pos] X.env))) _ _ s
 refine Calls.spliced_cons (thn (ha pins s σ H Pr ρ (fun r ρ1=>toD r fun a=>datV i ρ1 fun d=>fs [a,.fn x d] (fun r=>r=.d .non∧post (.d .non) ρ1) (fun z=>noLs z.ds=true∧xp z)) I E0 h) fun u1 s1 hq=>?_)
 obtain ⟨v1,H1,a,ρ1,I1,rv1,E1,q1⟩:=EL.frz (post:=fun a ρ1=>datV i ρ1 fun d=>fs [a,.fn x d] (fun r=>r=.d .non∧post (.d .non) ρ1) (fun z=>noLs z.ds=true∧xp z)) hq
 obtain ⟨d,qi,q1⟩:=datV_is q1
 rw [he2]
 show wpAny _ _ (spliced ((false,eval (.Lambda pr bd sc pos) X.env)::backTo cpos (starEach [] X.env))) _ _ s1
 obtain ⟨c,hcl⟩:=I1.ok.has y (.inl LI.cel)
 have fr:∀ z,(z,NameKind.free)∈sc.names→z=y:=fun z hz=>by
  have:(z,NameKind.free)∈sc.names.filter fun p=>p.2 == .free:=List.mem_filter.mpr ⟨hz,rfl⟩
  rw [LI.fre] at this
  simpa using this
 have hm':(y,NameKind.free)∈sc.names:=by
  have:(y,NameKind.free)∈sc.names.filter fun p=>p.2 == .free:=by rw [LI.fre]; simp
  exact (List.mem_filter.mp this).1
 have hclo:closureFor sc X.env=pure [(y,c)]:=by
  rw [closureFor_cl fun z hz hf=>by
   obtain ⟨z1,z2⟩:=z
   cases hf
   rw [fr z1 hz]; exact ⟨c,hcl⟩,clOf_one hcl _ _ LI.fre]
 refine Calls.spliced_cons (lam_make I1 LI.mem tab code LI.qual hclo LI.deft fun fa c' oq H2 s2 ctv pm I2 ext gf nf zf zq co=>?_)
 refine Calls.spliced_nil ⟨I2.kIn,?_⟩
 have E2:=E1.exten ext
 obtain ⟨_,e1,ra⟩:=E2.head_d
 cases e1
 have E3:=E2.tail
 obtain ⟨sv,hsl,v',rfl,rd⟩:=E3.slot qi
 obtain ⟨m,_,hl⟩:=I2.loc
 obtain ⟨u',rv',lk⟩:=hl i y v' LI.at_i hsl (.inr (.inl LI.cel))
 obtain ⟨oc,gc,dc⟩:s2.heap.IsCell c (some u'):=by
  rcases lk with ⟨z,_⟩ | ⟨_,c2,e2,z⟩
  ·
   rw [show X.env.kindOf y=some .cell from LI.cel] at z; cases z
  ·
   rw [hcl] at e2; cases e2; exact z
 have nc:H2 c=none:=(I2.freeC y c hcl).resolve_right fun z=>by rw [LI.fn] at z; exact absurd z.1 (by decide)
 have hfc:fa≠c:=fun z=>by rw [z,gc] at gf; cases gf; cases dc
 have e0:=I2.hide
 have nfh:hidH H2 fa=none:=hidH_none nf
 have nch:hidH H2 c=none:=hidH_none nc
 have nco:∀ q,¬ CodeOb oc q:=fun q ⟨vs,t,z,_⟩=>by rw [dc] at z; cases z
 have nfo:∀ q,¬ CodeOb (kla_obj "<lambda>" (lamQ x) pr bd sc [(y,c)] pm c' ctv) q:=fun q ⟨vs,t,z,_⟩=>by cases z
 generalize hfo:kla_obj "<lambda>" (lamQ x) pr bd sc [(y,c)] pm c' ctv=fo at gf nfo
 have n1:upd (hidH H2) fa (.frz fo (.own fa)) c=none:=by rw [upd_ne (Ne.symm hfc)]; exact nch
 have ext2:∀ b o,hidH H2 b=some o→upd (upd (hidH H2) fa (.frz fo (.own fa))) c (.frz oc (.own c)) b=some o:=fun b o z=>by
  have z1:upd (hidH H2) fa (.frz fo (.own fa)) b=some o:=by rw [upd_ne (ne_of_none z nfh)]; exact z
  rw [upd_ne (ne_of_none z1 n1)]; exact z1
 have s0c:X.s₀.heap.objs.size≤c:=I2.ok.cab y c LI.fn hcl
 have s0f:X.s₀.heap.objs.size≤fa:=Nat.le_trans I1.sz zf
 have none2:∀ b,hidH H2 b=none→b≠fa→b≠c→upd (upd (hidH H2) fa (.frz fo (.own fa))) c (.frz oc (.own c)) b=none:=fun b z h1 h2=>by rw [upd_ne h2,upd_ne h1]; exact z
 have E0c:Env0 X.prog X.w X.K X.mg X.base X.A X.stack s2 (upd (upd (hidH H2) fa (.frz fo (.own fa))) c (.frz oc (.own c))):=by
  refine ⟨e0.frames,e0.mod,fun b o z=>⟨(e0.bs b o z).1,none2 b (e0.bs b o z).2 ?_ ?_⟩,e0.bsz,e0.funs,fun b hb=>none2 b (e0.frf b hb) ?_ ?_,fun b o z=>?_,e0.bare,fun z hz c1 P1 q=>ext2 _ _ (e0.tbs z hz c1 P1 q)⟩
  ·
   exact Nat.ne_of_lt (Nat.lt_of_lt_of_le (Heap.lt_size (I2.ok.bs b o z).1) s0f)
  ·
   exact Nat.ne_of_lt (Nat.lt_of_lt_of_le (Heap.lt_size (I2.ok.bs b o z).1) s0c)
  ·
   rcases List.mem_cons.mp (I2.stkSub b hb) with z | z
   ·
    rw [z]; exact Nat.ne_of_lt (Nat.lt_of_lt_of_le I1.lt zf)
   ·
    obtain ⟨_,o,ho,_⟩:=I2.ok.funs.mem z
    exact Nat.ne_of_lt (Nat.lt_of_lt_of_le (Heap.lt_size ho) s0f)
  ·
   rcases List.mem_cons.mp (I2.stkSub b hb) with z | z
   ·
    rw [z]; exact Ne.symm (I2.cne y c hcl)
   ·
    obtain ⟨_,o,ho,_⟩:=I2.ok.funs.mem z
    exact Nat.ne_of_lt (Nat.lt_of_lt_of_le (Heap.lt_size ho) s0c)
  ·
   by_cases h1:b=c
   ·
    subst h1; rw [upd_same] at z; cases z; exact ⟨gc,_,gc⟩
   ·
    rw [upd_ne h1] at z
    by_cases h2:b=fa
    ·
     subst h2; rw [upd_same] at z; cases z; exact ⟨gf,_,gf⟩
    ·
     rw [upd_ne h2] at z
     exact (e0.hok b o z).stay (fun _ _ _ q=>q) (fun d q=>ext2 d _ q) (fun d xs q=>ext2 d _ q) fun d od _ _ q=>ext2 d _ q
 have pr2:∀ {v:V} {d:D},Rep X.K H2 v d→Rep X.K (upd (upd (hidH H2) fa (.frz fo (.own fa))) c (.frz oc (.own c))) v d:=fun r=>(Rep.hid r).pres fun b o _ z=>ext2 b o z
 have rfn:Rep X.K (upd (upd (hidH H2) fa (.frz fo (.own fa))) c (.frz oc (.own c))) (.ref fa) (.fn x d):=by
  refine .fn LI.lam (y:=y) (c:=c) (c':=c') (pm:=pm) (ctv:=ctv) ?_ (ext2 _ _ (hidH_vis zq (vis_frzo _ _))) co upd_same dc rv' hm' (pr2 rd)
  rw [upd_ne hfc,upd_same,hfo]
 have hsp:spX X.K 2 fs [v1,.ref fa] (upd (upd (hidH H2) fa (.frz fo (.own fa))) c (.frz oc (.own c))) (fun v H'=>v=.non∧post (.d .non) ρ1) (fun cls dx H'=>∃ z,XFly X.K H' cls dx z∧noLs z.ds=true∧xp z):=by
  refine ⟨rfl,[a,.fn x d],_,_,.cons (pr2 ra) (.cons rfn .nil),q1,fun v H' r E' p=>?_,fun cls dx H' z f1 f2=>⟨z,f1,f2⟩⟩
  obtain ⟨rfl,p⟩:=p
  obtain ⟨w,ew,rw⟩:=E'.head_d
  cases ew
  cases rw
  exact ⟨rfl,p⟩
 have rvs:Vals [v1,.ref fa] [u1,.ref fa]:=.cons rv1 (.cons rfl .nil)
 have hl':([u1,.ref fa]:List Value).length=ps.length:=by rw [← rvs.length]; exact F.len _ _ _ _ hsp
 have bt:=hb s2 [u1,.ref fa] I2.kIn (by rw [List.append_nil]; exact hl')
 rw [List.append_nil] at bt
 refine wpAny_call (codeAny_mono (F.run X.A X.stack s2 _ ⟨[u1,.ref fa],[]⟩ [u1,.ref fa] [v1,.ref fa] _ _ hr E0c bt rvs hsp) fun res s' hq=>?_)
 cases res with
 | error ev =>
  obtain ⟨ax,cls,dx,T,H',rfl,os,bare,un,hok,fl,na,nt,za,zt,z,f1,f2,f3⟩:=hq
  have zc:H' c=some (.frz oc (.own c)):=un.frzs c oc _ upd_same
  have zf2:H' fa=some (.frz fo (.own fa)):=un.frzs fa fo _ (by rw [upd_ne hfc,upd_same])
  obtain ⟨un1,hok1⟩:=un.one n1 gc nco hok
  obtain ⟨un2,hok2⟩:=un1.one nfh gf nfo hok1
  obtain ⟨I3,ext3,back⟩:=I2.unhide os bare un2 hok2
  have keep:∀ b o,H' b=some o→(∀ oo,o≠.frz oo (.own b))→del (del H' c) fa b=some o:=fun b o q n=>by
   have h1:b≠c:=fun y=>by subst y; rw [zc] at q; cases q; exact n _ rfl
   have h2:b≠fa:=fun y=>by subst y; rw [zf2] at q; cases q; exact n _ rfl
   rw [del_ne h2,del_ne h1]; exact q
  have fly:XFly X.K (del (del H' c) fa) cls dx z:=by
   obtain ⟨C,vs,g1,g2,g3,g4,g5⟩:=f1
   refine ⟨C,vs,g1,g2,g3,?_,g5.lite (fun b xs q=>keep b _ q fun _ y=>nomatch y) (fun b o xs q=>keep b _ q fun _ y=>nomatch y) f2⟩
   rcases g4 with g4 | ⟨dd,od,k1,k2,k3⟩
   ·
    exact .inl g4
   ·
    exact .inr ⟨dd,od,k1,keep dd _ k2 (fun _ y=>nomatch y),k3⟩
  refine hx pins σ _ s' ax cls dx (some T) z I3 ⟨fl,?_,fun t et=>?_,I2.newer za,fun t et=>by cases et; exact I2.newer zt⟩ (fly.ext fun b o q=>mrg_some q) f3
  ·
   rw [mrg_none (del_none (del_none na))]; exact I2.hok.fresh za
  ·
   cases et; rw [mrg_none (del_none (del_none nt))]; exact I2.hok.fresh zt
 | ok fl =>
  cases fl with
  | ret u =>
   obtain ⟨v,H',os,bare,un,hok,rv,hv,pq⟩:=hq
   subst hv
   obtain ⟨un1,hok1⟩:=un.one n1 gc nco hok
   obtain ⟨un2,hok2⟩:=un1.one nfh gf nfo hok1
   obtain ⟨I3,ext3,back⟩:=I2.unhide os bare un2 hok2
   exact ⟨.non,_,.d .non,ρ1,I3,rv,(E3.exten ext3).cons_d .non,pq⟩
  | next=>exact False.elim hq
  | brk=>exact False.elim hq
  | cont=>exact False.elim hq
end
end L2
namespace L2
open PySem PySem.Spec PyProof.Rows PySem.W
structure LamT (K:Frag) (x:Str) (fd:FuncData) (st:Stmt):Prop where
 tab:∃ c0 P,tabIn K x=some (c0,P)∧fd.code=.ref c0
 lam:lamIn K x=lamOf (defBody st)
theorem LamT.mk' {K:Frag} {x:Str} {fd:FuncData} {st:Stmt} {c0:Addr} (h1:(tabIn K x).map (·.1)=some c0) (h2:fd.code=.ref c0) (h3:lamIn K x=lamOf (defBody st)):LamT K x fd st:=by
 refine ⟨?_,h3⟩
 cases z:tabIn K x with
 | none=>rw [z] at h1; cases h1
 | some p=>rw [z] at h1; cases h1; exact ⟨p.1,p.2,rfl,h2⟩
theorem lam_in {X:Cx} {x y:Str} {i:Nat} {pr:Arguments} {bd:Expr} {sc:Scope} {pos:Pos} {fd:FuncData} {st:Stmt} (T:LamT X.K x fd st) (hc:fd.code=X.env.code) (h1:lamOf (defBody st)=some (pr,bd,sc,pos)) (mem:x∈lamNames) (qual:X.env.qual++"<lambda>"=lamQ x) (deft:defaultsOf pr X.env=([],[]))
  (fre:(sc.names.filter fun p=>p.2 == .free)=[(y,.free)]) (at_i:X.N[i]?=some y) (cel:X.env.scope.names.lookup y=some .cell) (fn:X.fn y=true):LamIn X x y i pr bd sc pos :=
 ⟨mem,let ⟨c0,P,a,b⟩:=T.tab; ⟨c0,P,a,by rw [← hc]; exact b⟩,T.lam.trans h1,qual,deft,fre,at_i,cel,fn⟩
theorem fn_okXL {P:Program} {w:World} {K:Frag} {mg:Str→Option Value} {base:Heap} {x qual:Str} {st:Stmt} {f:Addr} {fd:FuncData} {N ps:List Str} {k:Nat} {fs:FSX} (F:Fun K x qual st f fd) (S:FnScope N ps (defScope st)) (t:(Xc→Prop)→W Fl)
  (hbody:∀ (cdv:Value) (A:Around) (outer:List Env) (s:Shared) (H:Hp) (E:XK) (xp:Xc→Prop),fd.code=cdv→Room k (A.deeper (envOfC qual (defScope st) s.heap.objs.size f cdv))→(∀ cls dx H' y,XFly K H' cls dx y→xp y→E cls dx H') →
   PMs (cxOf (CXr P w) P w K mg base N qual (defScope st) f cdv A outer s H E) (defBody st) (t xp))
  (h:∀ ds post xp,ds.length=ps.length→fs ds post xp→t xp (ds.map .d++List.replicate (N.length - ps.length) .un) (okX post)):FnOk P w K mg base (CXr P w) (k+1) f fd ps (spX K ps.length fs):=by
 obtain ⟨oc,od,kV,doc,pm,an,cdv,ct,osl,rfl,lk,hcd⟩:=F.ex
 refine fn_of lk hcd S (fun vs H Q E q=>q.1) fun A outer s H vs Q E hr q=>?_
 obtain ⟨hl,ds,post,xp,rs,hf,q1,q2⟩:=q
 have E0:REnv K H H (vs.map some) (ds.map .d):=⟨fun _ _ e=>e,by rw [owns_ds]; exact List.nodup_nil,fun a ha=>(by rw [owns_ds] at ha; simp at ha),REnv.ds rs⟩
 refine ⟨_,(hbody cdv A outer s H E xp rfl hr q2).pss,H,ds.map .d++List.replicate (N.length - ps.length) .un,okX post,?_,h ds post xp (by rw [← rs.length]; exact hl) hf,fun σ' H' ρ' E' p=>?_,fun _ _ _ _ p=>p.elim,fun _ _ _ _ p=>p.elim,fun v τ H' r ρ' E' p=>?_⟩
 ·
  unfold start
  rw [hl]
  exact E0.uns _
 ·
  exact q1 .non H' (.d .non) ((⟨E'.sub,List.nodup_nil,fun a ha=>(by simp [owns] at ha),.nil⟩:REnv K H H' [] []).cons_d .non) p
 ·
  exact q1 v H' r (REnv.left (τ:=[some v]) (lam:=[r]) E' rfl) p
theorem lamSc {p y:Str} {pr:Arguments} {bd:Expr} {sc:Scope} (par:sc.names.lookup p=some .local) (fre:(sc.names.filter fun p=>p.2 == .free)=[(y,.free)]) (fr1:sc.names.lookup y=some .free) (nc:(sc.names.all fun z=>z.2 != .cell)=true) (co:sc.isCoroutine=false) (gk:(sc.isGenerator,sc.kind)=(false,.function))
  (bind:∀ (q:Str) (cl:List (Str×Addr)) (pm cdv ct u:Value),bindArgs (kla_fn "<lambda>" q pr bd sc cl pm cdv ct) ⟨[u],[]⟩=pure [(p,u)]):LamSc p y pr bd sc where
 par:=par
 fre:=fr1
 nc:=fun z hz q=>by
  have:=List.all_eq_true.mp nc z hz
  rw [q] at this
  exact absurd this (by decide)
 one:=fun z hz=>by
  have:(z,NameKind.free)∈sc.names.filter fun p=>p.2 == .free:=List.mem_filter.mpr ⟨hz,rfl⟩
  rw [fre] at this
  simpa using this
 co:=co
 gen:=(Prod.mk.inj gk).1
 kind:=(Prod.mk.inj gk).2
 bind:=bind
section
variable {X:Cx} {k k' n:Nat} {f:Addr} {fd:FuncData} {ps:List Str} {fs:FSX} {g x y nm:Str} {p cpos pos:Pos} {e:Expr} {t:W L} {xp:Xc→Prop} {pr:Arguments} {bd:Expr} {sc:Scope} {st:Stmt} {fl:FS}
theorem pl_cxXL (F:FnOk X.prog X.w X.K X.mg X.base (CXr X.prog X.w) k f fd ps (spX X.K 2 fs)) (T:FX X.K X.mg g st f fd ps) (hr:Room k' X.A) (hx:XOK X xp) (i:Nat) (LI:LamIn X x y i pr bd sc pos) (ha:PL X e t) (hk:k≤k':=by decide) (hg:Gl X g:=by rfl) (hdb:(g == ("__debug__" : Str))=false:=by decide) (he:starEach [e,.Lambda pr bd sc pos] X.env=(false,eval e X.env)::starEach [.Lambda pr bd sc pos] X.env:=by rfl)
  (he2:starEach [.Lambda pr bd sc pos] X.env=(false,eval (.Lambda pr bd sc pos) X.env)::starEach [] X.env:=by rfl):PL X (.Call (.Name g p) [e,.Lambda pr bd sc pos] [] cpos) (wCallXL fs xp x i t) :=
 pl_callXL F (hr.mono hk) hg T.m T.f.kp T.b hx i LI ha hdb he he2
theorem pl_cFn (L:LamOk X.prog X.w X.K X.mg X.base k x fl) (hr:Room k' X.A) (i:Nat) (ha:PL X e t) (hk:k≤k':=by decide) (hN:X.N[i]?=some nm:=by rfl) (hv:Vis X.env.scope nm:=by first | exact Or.inl rfl | exact Or.inr (Or.inl rfl) | exact Or.inr (Or.inr rfl)) (hd:(nm == ("__debug__" : Str))=false:=by decide)
  (hcd:(nm == ("__classdict__" : Str))=false:=by decide) (hs:starEach [e] X.env=(false,eval e X.env)::starEach [] X.env:=by rfl):PL X (.Call (.Name nm p) [e] [] pos) (wCallFn fl x i t):=pl_callFn L (hr.mono hk) i ha hN hv hd hcd hs
end
end L2
namespace L2
open PySem
theorem forL_inv {g:Tg} {b:W Fl} {post:Fl→Ev→Prop}:∀ (xs:List D) (I:Nat→Ev→Prop) (ρ:Ev),I 0 ρ →
  (∀ j x ρ,xs[j]?=some x→I j ρ→∀ Q:Fl→Ev→Prop,(∀ ρ',I (j+1) ρ'→Q .nx ρ')→(∀ ρ',I (j+1) ρ'→Q .ct ρ')→(∀ ρ',post .nx ρ'→Q .bk ρ')→(∀ r ρ',post (.rt r) ρ'→Q (.rt r) ρ')→g x ρ fun ρ1=>b ρ1 Q) →
  (∀ ρ,I xs.length ρ→post .nx ρ)→wForL g b xs ρ post
 | [],I,ρ,h0,_,fin=>fin ρ h0
 | x::xs,I,ρ,h0,step,fin=>by
  unfold wForL
  refine step 0 x ρ rfl h0 _ (fun ρ' h=>?_) (fun ρ' h=>?_) (fun ρ' h=>h) (fun r ρ' h=>h)
  ·
   exact forL_inv xs (fun j=>I (j+1)) ρ' h (fun j y ρ e hi=>step (j+1) y ρ e hi) fin
  ·
   exact forL_inv xs (fun j=>I (j+1)) ρ' h (fun j y ρ e hi=>step (j+1) y ρ e hi) fin
theorem comp_inv {g:Tg} {ti:W Bool} {te:W L} {k:List D→Ev→Prop}:∀ (xs:List D) (I:Nat→Ev→List D→Prop) (ρ:Ev) (acc:List D),I 0 ρ acc →
  (∀ j x ρ acc,xs[j]?=some x→I j ρ acc→∀ Q:Ev→List D→Prop,(∀ ρ' acc',I (j+1) ρ' acc'→Q ρ' acc')→g x ρ fun ρ1=>ti ρ1 fun b ρ2=>if b=true then te ρ2 fun r ρ3=>toD r fun y=>Q ρ3 (acc++[y]) else Q ρ2 acc) →
  (∀ ρ acc,I xs.length ρ acc→k acc ρ)→compL g ti te xs ρ acc k
 | [],I,ρ,acc,h0,_,fin=>fin ρ acc h0
 | x::xs,I,ρ,acc,h0,step,fin=>by
  unfold compL
  exact step 0 x ρ acc rfl h0 (fun ρ acc=>compL g ti te xs ρ acc k) fun ρ' acc' h=>comp_inv xs (fun j=>I (j+1)) ρ' acc' h (fun j y ρ acc e hi=>step (j+1) y ρ acc e hi) fin
theorem comp_pure {α:Type} {enc:α→D} {h:α→Option D} {caps:Ev} {ti:W Bool} {te:W L} {k:List D→Ev→Prop}:∀ (as:List α) (acc:List D) (l:L),
  (∀ a∈as,∀ Q:Ev→Option D→Prop,Q (.d (enc a)::caps) (h a)→ti (.d (enc a)::caps) fun b ρ2=>if b=true then te ρ2 fun r ρ3=>toD r fun y=>Q ρ3 (some y) else Q ρ2 none) →
  (∀ l',k (acc++as.filterMap h) (l'::caps))→compL (tgName 0) ti te (as.map enc) (l::caps) acc k
 | [],acc,l,_,fin=>by have:=fin l; simpa [compL] using this
 | a::as,acc,l,step,fin=>by
  show compL (tgName 0) ti te (enc a::as.map enc) (l::caps) acc k
  unfold compL
  show ti (.d (enc a)::caps) _
  refine step a List.mem_cons_self (fun ρ o=>match o with | some y=>compL (tgName 0) ti te (as.map enc) ρ (acc++[y]) k | none=>compL (tgName 0) ti te (as.map enc) ρ acc k) ?_
  cases e:h a with
  | none=>exact comp_pure as acc _ (fun b hb=>step b (List.mem_cons_of_mem _ hb)) (by simpa [List.filterMap_cons,e] using fin)
  | some y=>exact comp_pure as (acc++[y]) _ (fun b hb=>step b (List.mem_cons_of_mem _ hb)) (by simpa [List.filterMap_cons,e] using fin)
theorem comp_map {α:Type} {enc:α→D} {h:α→D} {caps:Ev} {te:W L} {k:List D→Ev→Prop} (as:List α) (acc:List D) (l:L)
  (step:∀ a∈as,∀ Q:Ev→D→Prop,Q (.d (enc a)::caps) (h a)→te (.d (enc a)::caps) fun r ρ3=>toD r fun y=>Q ρ3 y)
  (fin:∀ l',k (acc++as.map h) (l'::caps)):compL (tgName 0) wTrue te (as.map enc) (l::caps) acc k:=by
 refine comp_pure (h:=fun a=>some (h a)) as acc l (fun a ha Q q=>?_) (by simpa using fin)
 simp only [wTrue,if_true]
 exact step a ha (fun ρ y=>Q ρ (some y)) q
theorem atI_0 {α:Type} {x:α} {xs:List α}:atI (x::xs) 0=some x:=atI_nat (j:=0) rfl
theorem atI_1 {α:Type} {x y:α} {xs:List α}:atI (x::y::xs) 1=some y:=atI_nat (j:=1) rfl
theorem atI_2 {α:Type} {x y z:α} {xs:List α}:atI (x::y::z::xs) 2=some z:=atI_nat (j:=2) rfl
theorem atI_3 {α:Type} {x y z w:α} {xs:List α}:atI (x::y::z::w::xs) 3=some w:=atI_nat (j:=3) rfl
theorem atI_4 {α:Type} {x y z w v:α} {xs:List α}:atI (x::y::z::w::v::xs) 4=some v:=atI_nat (j:=4) rfl
theorem atI_of {α:Type} {xs:List α} {i:Int} {x:α} (h0:0≤i) (h:xs[i.toNat]?=some x):atI xs i=some x:=by
 have:=atI_nat h
 rwa [Int.toNat_of_nonneg h0] at this
theorem atI_map {α:Type} {f:α→D} {xs:List α} {k:Nat} (h:k < xs.length):atI (xs.map f) (k:Int)=some (f xs[k]):=atI_nat (by rw [List.getElem?_map,List.getElem?_eq_getElem h]; rfl)
theorem ix30:ixN 3 0=some 0:=by decide
theorem ix31:ixN 3 1=some 1:=by decide
theorem ix32:ixN 3 2=some 2:=by decide
theorem rngD_map (n:Nat):rngD 0 n=(List.range n).map fun (i:Nat)=>D.int (i:Int):=by
 unfold rngD
 simp
theorem forR_inv {g:Tg} {b:W Fl} {post:Fl→Ev→Prop} (lo:Int) (n:Nat) (I:Nat→Ev→Prop) (ρ:Ev) (h0:I 0 ρ)
  (step:∀ j ρ,j < n→I j ρ→∀ Q:Fl→Ev→Prop,(∀ ρ',I (j+1) ρ'→Q .nx ρ')→(∀ ρ',I (j+1) ρ'→Q .ct ρ')→(∀ ρ',post .nx ρ'→Q .bk ρ')→(∀ r ρ',post (.rt r) ρ'→Q (.rt r) ρ')→g (.int (lo+(j:Int))) ρ fun ρ1=>b ρ1 Q)
  (fin:∀ ρ,I n ρ→post .nx ρ):wForL g b (rngD lo n) ρ post:=by
 have hl:(rngD lo n).length=n:=by simp [rngD]
 refine forL_inv _ I ρ h0 (fun j x ρ hj hi Q h1 h2 h3 h4=>?_) fun ρ h=>fin ρ (by rwa [hl] at h)
 have hj':j < n:=by rw [← hl]; exact (List.getElem?_eq_some_iff.mp hj).1
 have e:x=.int (lo+(j:Int)):=by
  unfold rngD at hj
  rw [List.getElem?_map,List.getElem?_range hj'] at hj
  exact (Option.some.inj hj).symm
 subst e
 exact step j ρ hj' hi Q h1 h2 h3 h4
theorem forR0_inv {g:Tg} {b:W Fl} {post:Fl→Ev→Prop} (n:Nat) (I:Nat→Ev→Prop) (ρ:Ev) (h0:I 0 ρ)
  (step:∀ j ρ,j < n→I j ρ→∀ Q:Fl→Ev→Prop,(∀ ρ',I (j+1) ρ'→Q .nx ρ')→(∀ ρ',I (j+1) ρ'→Q .ct ρ')→(∀ ρ',post .nx ρ'→Q .bk ρ')→(∀ r ρ',post (.rt r) ρ'→Q (.rt r) ρ')→g (.int (j:Int)) ρ fun ρ1=>b ρ1 Q)
  (fin:∀ ρ,I n ρ→post .nx ρ):wForL g b (rngD 0 n) ρ post :=
 forR_inv 0 n I ρ h0 (fun j ρ hj hi Q h1 h2 h3 h4=>by rw [Int.zero_add]; exact step j ρ hj hi Q h1 h2 h3 h4) fin
theorem bits_small {i:Int} (h:i.natAbs < 2 ^ 200):bitsOk i:=Nat.lt_of_lt_of_le h (Nat.pow_le_pow_right (by decide) (by decide))
theorem fmod_rng (x:Int) {m:Int} (h:0 < m):0≤x.fmod m∧x.fmod m < m:=by
 rw [Int.fmod_eq_emod_of_nonneg _ (by omega)]
 exact ⟨Int.emod_nonneg _ (by omega),Int.emod_lt_of_pos _ h⟩
theorem bits_le {i:Int} {n:Nat} (h0:0≤i) (h:i < 2 ^ n) (hn:n≤1000000):bitsOk i:=by
 have:i.natAbs < 2 ^ n:=by
  have e:((2 ^ n:Nat):Int)=(2:Int) ^ n:=by simp
  omega
 exact Nat.lt_of_lt_of_le this (Nat.pow_le_pow_right (by decide) hn)
theorem ten60:(10:Int) ^ 60 < 2 ^ 200:=by decide
theorem small9000 {i:Int} (h0:0≤i) (h:i≤10 ^ 60):i.natAbs < 2 ^ 9000:=by
 have:i.natAbs < 2 ^ 200:=by
  have:=ten60
  have e:((2 ^ 200:Nat):Int)=(2:Int) ^ 200:=by decide
  omega
 exact Nat.lt_of_lt_of_le this (Nat.pow_le_pow_right (by decide) (by decide))
theorem RB.sub {m n:Nat} {p q:Rat} (hp:RB m p) (hq:RB n q):RB (m+n+1) (p - q):=by
 rw [Rat.sub_eq_add_neg]
 exact hp.add hq.neg
theorem RB.of_divInt {t b:Int} {n:Nat} (h:b≠0) (ht:t.natAbs < 2 ^ n) (hb:b.natAbs < 2 ^ n):RB n (Rat.divInt t b):=⟨Nat.lt_of_le_of_lt (num_le h) ht,Nat.lt_of_le_of_lt (den_le h) hb⟩
theorem den_neI (q:Rat):(q.den:Int)≠0:=by have:=den_pos q; omega
theorem RB.zero:RB 1 0:=⟨by decide,by decide⟩
structure Ask where
 nm:Str
 one:Nat
 other:Nat
 size:Rat
structure Ring where
 rooms:List Rat
 asks:List Ask
def Ring.n (R:Ring):Nat:=R.rooms.length
def askD (a:Ask):D:=.tup [.str a.nm,.int a.one,.int a.other,frD a.size]
def ringD (R:Ring):D:=.tup [.lst (R.rooms.map frD),.lst (R.asks.map askD)]
theorem num_eq (q:Rat):(q.num:Rat)=q*(q.den:Rat):=by
 have h:=Rat.num_divInt_den q
 have hd:(q.den:Rat)≠0:=fun w=>by
  have:=Rat.natCast_pos.mpr q.den_pos
  rw [w] at this
  exact absurd this (by decide)
 rw [Rat.divInt_eq_div] at h
 have e:(((q.den:Nat):Int):Rat)=(q.den:Rat):=rfl
 rw [e] at h
 have e2:q*(q.den:Rat)=(q.num:Rat) / (q.den:Rat)*(q.den:Rat):=by rw [h]
 rw [e2,Rat.div_mul_cancel hd]
theorem num_lt_of {q:Rat} {V:Nat} (h0:0≤q) (hv:q < (V:Rat)):q.num.natAbs < V*q.den:=by
 have hd:(0:Rat) < (q.den:Rat):=Rat.natCast_pos.mpr q.den_pos
 have h1:q*(q.den:Rat) < (V:Rat)*(q.den:Rat):=Rat.mul_lt_mul_of_pos_right hv hd
 rw [← num_eq] at h1
 have h2:((q.num:Int):Rat) < (((V*q.den:Nat):Int):Rat):=by
  have e:(((V*q.den:Nat):Int):Rat)=(V:Rat)*(q.den:Rat):=by
   push_cast
   rfl
  rw [e]; exact h1
 have h3:q.num < ((V*q.den:Nat):Int):=Rat.intCast_lt_intCast.mp h2
 have h4:0≤q.num:=Rat.num_nonneg.mpr h0
 omega
theorem RB.of_val {q:Rat} {d v:Nat} (h0:0≤q) (hd:q.den < 2 ^ d) (hv:q < ((2 ^ v:Nat):Rat)):RB (v+d) q:=by
 refine ⟨Nat.lt_of_lt_of_le (num_lt_of h0 hv) ?_,Nat.lt_of_lt_of_le hd (Nat.pow_le_pow_right (by decide) (by omega))⟩
 rw [Nat.pow_add]
 exact Nat.mul_le_mul_left _ (Nat.le_of_lt hd)
structure AskOk (n:Nat) (a:Ask):Prop where
 one:a.one < n
 other:a.other < n
 ne:a.one≠a.other
 size:0≤a.size
 lt:a.size < ((2 ^ 300:Nat):Rat)
 nm:PyData.strOk a.nm=true
structure Ring.Ok (R:Ring):Prop where
 lo:2≤R.n
 hi:R.n≤12
 few:R.asks.length≤20
 room:∀ q∈R.rooms,0 < q∧RB 60 q
 ask:∀ a∈R.asks,AskOk R.n a
 cd:∃ D:Nat,0 < D∧D < 2 ^ 1240∧∀ a∈R.asks,a.size.den∣D
theorem Ring.Ok.rb {R:Ring} (h:R.Ok) {a:Ask} (ha:a∈R.asks):RB 1540 a.size:=by
 obtain ⟨D,d0,d1,hd⟩:=h.cd
 exact RB.of_val (v:=300) (d:=1240) (h.ask a ha).size (Nat.lt_of_le_of_lt (Nat.le_of_dvd d0 (hd a ha)) d1) (h.ask a ha).lt
theorem okDs_map {α:Type} {n:Nat} {f:α→D}:∀ xs:List α,(∀ x∈xs,okD n (f x)=true)→okDs n (xs.map f)=true
 | [],_=>rfl
 | x::xs,h=>by simp [okDs,h x List.mem_cons_self,okDs_map xs fun y hy=>h y (List.mem_cons_of_mem _ hy)]
theorem okD_fr (n:Nat) (q:Rat):okD (n+1) (frD q)=true:=by cases n <;> simp [frD,okD,okDs]
theorem okD_ask {n:Nat} {a:Ask} (h:AskOk n a):okD 2 (askD a)=true:=by simp [askD,okD,okDs,h.nm,okD_fr]
theorem okD_ring {R:Ring} (h:R.Ok):okD 4 (ringD R)=true:=by
 simp only [ringD,okD,okDs,Bool.and_true,Bool.and_eq_true]
 exact ⟨okDs_map _ fun q _=>okD_fr 1 q,okDs_map _ fun a ha=>okD_ask (h.ask a ha)⟩
theorem shape_ring {R:Ring} (h:R.Ok):shapeD (ringD R):=shape_ok (okD_ring h) (by decide)
theorem eq_ring {R:Ring} (h:R.Ok):eqD (ringD R) (ringD R)=true:=eqD_refl (okD_ring h)
def StOk (xs:List D):Prop:=∃ (c sd:Int) (t:Bool),xs=[.int c,.int sd,.bl t]∧0≤sd∧sd < 2147483647
theorem low_pair {t b g:Int} (h:b≠0) (e:g=shareOf t b):D.tup [.int (t.fdiv g),.int (b.fdiv g)]=frD (Rat.divInt t b):=by
 subst e
 rw [low_num h,low_den h]
 rfl
def denP (qs:List Rat):Nat:=(qs.map (·.den)).foldr (·*·) 1
theorem denP_pos:∀ qs:List Rat,0 < denP qs
 | []=>Nat.one_pos
 | a::t=>Nat.mul_pos (den_pos a) (denP_pos t)
def sumQ (qs:List Rat):Rat:=qs.foldl (·+·) 0
theorem foldl_add (qs:List Rat):∀ acc:Rat,qs.foldl (·+·) acc=acc+sumQ qs:=by
 unfold sumQ
 induction qs with
 | nil=>intro acc; simp [Rat.add_zero]
 | cons q qs ih=>intro acc; rw [List.foldl_cons,List.foldl_cons,ih,ih (0+q),Rat.zero_add,Rat.add_assoc]
theorem sumQ_cons (q:Rat) (qs:List Rat):sumQ (q::qs)=q+sumQ qs:=by
 show (q::qs).foldl (·+·) 0=_
 rw [List.foldl_cons,foldl_add,Rat.zero_add]
theorem opIx_lst {xs:List D} {i:Int} {k:L→Prop}:opIx (.lst xs) (.int i) k=∃ v,atI xs i=some v∧k (.d v):=rfl
theorem opIx_tup {xs:List D} {i:Int} {k:L→Prop}:opIx (.tup xs) (.int i) k=∃ v,atI xs i=some v∧k (.d v):=rfl
theorem opIx_str {z:Str} {i:Int} {k:L→Prop}:opIx (.str z) (.int i) k=(z.length≤sizeLine∧∃ c,atI z.cps.toList i=some c∧k (.d (.str ⟨#[c]⟩))):=rfl
theorem ix_ring0 {R:Ring} {k:L→Prop}:opIx (ringD R) (.int 0) k=k (.d (.lst (R.rooms.map frD))):=by
 show (∃ v,atI _ _=some v∧_)=_
 simp only [atI_0,Option.some.injEq,exists_eq_left']
theorem ix_ring1 {R:Ring} {k:L→Prop}:opIx (ringD R) (.int 1) k=k (.d (.lst (R.asks.map askD))):=by
 show (∃ v,atI _ _=some v∧_)=_
 simp only [atI_1,Option.some.injEq,exists_eq_left']
theorem ix_ask0 {a:Ask} {k:L→Prop}:opIx (askD a) (.int 0) k=k (.d (.str a.nm)):=by
 show (∃ v,atI _ _=some v∧_)=_
 simp only [atI_0,Option.some.injEq,exists_eq_left']
theorem ix_ask1 {a:Ask} {k:L→Prop}:opIx (askD a) (.int 1) k=k (.d (.int a.one)):=by
 show (∃ v,atI _ _=some v∧_)=_
 simp only [atI_1,Option.some.injEq,exists_eq_left']
theorem ix_ask2 {a:Ask} {k:L→Prop}:opIx (askD a) (.int 2) k=k (.d (.int a.other)):=by
 show (∃ v,atI _ _=some v∧_)=_
 simp only [atI_2,Option.some.injEq,exists_eq_left']
theorem ix_ask3 {a:Ask} {k:L→Prop}:opIx (askD a) (.int 3) k=k (.d (frD a.size)):=by
 show (∃ v,atI _ _=some v∧_)=_
 simp only [atI_3,Option.some.injEq,exists_eq_left']
theorem ix_fr0 {q:Rat} {k:L→Prop}:opIx (frD q) (.int 0) k=k (.d (.int q.num)):=by
 show (∃ v,atI _ _=some v∧_)=_
 simp only [atI_0,Option.some.injEq,exists_eq_left']
theorem ix_fr1 {q:Rat} {k:L→Prop}:opIx (frD q) (.int 1) k=k (.d (.int (q.den:Int))):=by
 show (∃ v,atI _ _=some v∧_)=_
 simp only [atI_1,Option.some.injEq,exists_eq_left']
theorem noL_fr (q:Rat):noL (frD q)=true:=by simp [frD,noL,noLs]
theorem noLs_map {α:Type} {f:α→D}:∀ (xs:List α),(∀ x∈xs,noL (f x)=true)→noLs (xs.map f)=true
 | [],_=>rfl
 | x::xs,h=>by simp [noLs,h x List.mem_cons_self,noLs_map xs fun y hy=>h y (List.mem_cons_of_mem _ hy)]
theorem noLs_frs (qs:List Rat):noLs (qs.map frD)=true:=noLs_map _ fun q _=>noL_fr q
theorem noLs_ints {α:Type} (f:α→Int) (xs:List α):noLs (xs.map fun x=>D.int (f x))=true:=noLs_map _ fun _ _=>rfl
theorem rooms_len (R:Ring):R.rooms.length=R.n:=rfl
def wayS (w:Bool):Str:=if w then "on" else "back"
theorem shape_on:shapeD (.str "on"):=shape_ok (n:=0) (by decide +kernel) (by decide)
theorem shape_back:shapeD (.str "back"):=shape_ok (n:=0) (by decide +kernel) (by decide)
theorem shape_way (w:Bool):shapeD (.str (wayS w)):=by
 cases w
 ·
  exact shape_back
 ·
  exact shape_on
theorem way_on (w:Bool):(wayS w="on")=(w=true):=by cases w <;> simp [wayS] <;> decide
theorem way_back (w:Bool):(wayS w="back")=(w=false):=by cases w <;> simp [wayS] <;> decide
theorem tgTup_tup {is:List Nat} {xs:List D} {ρ:Ev} {k:Ev→Prop}:tgTup is (.tup xs) ρ k=tgNames is xs ρ k:=rfl
theorem tgTup_ask {is:List Nat} {a:Ask} {ρ:Ev} {k:Ev→Prop}:tgTup is (askD a) ρ k=tgNames is [.str a.nm,.int a.one,.int a.other,frD a.size] ρ k:=rfl
theorem tgTup_fr {is:List Nat} {q:Rat} {ρ:Ev} {k:Ev→Prop}:tgTup is (frD q) ρ k=tgNames is [.int q.num,.int (q.den:Int)] ρ k:=rfl
theorem itemsOf_lst {xs:List D} {k:List D→Prop}:itemsOf (.lst xs) k=k xs:=rfl
theorem itemsOf_tup {xs:List D} {k:List D→Prop}:itemsOf (.tup xs) k=k xs:=rfl
theorem itemsOf_fr {q:Rat} {k:List D→Prop}:itemsOf (frD q) k=k [.int q.num,.int (q.den:Int)]:=rfl
theorem opLen_lst {xs:List D} {k:L→Prop}:opLen [.lst xs] k=k (.d (.int xs.length)):=rfl
theorem opLen_tup {xs:List D} {k:L→Prop}:opLen [.tup xs] k=k (.d (.int xs.length)):=rfl
theorem opLen_str {x:Str} {k:L→Prop}:opLen [.str x] k=(x.length≤sizeLine∧k (.d (.int x.length))):=rfl
theorem opLen_fr {q:Rat} {k:L→Prop}:opLen [frD q] k=k (.d (.int 2)):=rfl
theorem opLen_ring {R:Ring} {k:L→Prop}:opLen [ringD R] k=k (.d (.int 2)):=rfl
theorem opLen_ask {a:Ask} {k:L→Prop}:opLen [askD a] k=k (.d (.int 4)):=rfl
theorem isTy_tup_fr (q:Rat):isTy "tuple" (frD q)=true:=rfl
theorem isTy_lst_fr (q:Rat):isTy "list" (frD q)=false:=rfl
theorem isTy_int_fr (q:Rat):isTy "int" (frD q)=false:=rfl
theorem isTy_bool_fr (q:Rat):isTy "bool" (frD q)=false:=rfl
theorem isTy_str_fr (q:Rat):isTy "str" (frD q)=false:=rfl
theorem isTy_tup_ring (R:Ring):isTy "tuple" (ringD R)=true:=rfl
def frL (n:Nat) (f:Nat→Rat):List D:=(List.range n).map fun (t:Nat)=>frD (f t)
theorem frL_len (n:Nat) (f:Nat→Rat):(frL n f).length=n:=by simp [frL]
theorem frL_map (n:Nat) (f:Nat→Rat):frL n f=((List.range n).map f).map frD:=by
 unfold frL
 rw [List.map_map]
 rfl
theorem noLs_frL (n:Nat) (f:Nat→Rat):noLs (frL n f)=true:=by rw [frL_map]; exact noLs_frs _
def cutP (c:Nat×Nat):D:=.tup [.int (c.1:Int),.int (c.2:Int)]
theorem ix_cut0 {c:Nat×Nat} {k:L→Prop}:opIx (cutP c) (.int 0) k=k (.d (.int c.1)):=by
 show (∃ v,atI _ _=some v∧_)=_
 simp only [atI_0,Option.some.injEq,exists_eq_left']
theorem ix_cut1 {c:Nat×Nat} {k:L→Prop}:opIx (cutP c) (.int 1) k=k (.d (.int c.2)):=by
 show (∃ v,atI _ _=some v∧_)=_
 simp only [atI_1,Option.some.injEq,exists_eq_left']
theorem okD_cut (n:Nat) (c:Nat×Nat):okD (n+1) (cutP c)=true:=by cases n <;> simp [cutP,okD,okDs]
theorem noL_cut (c:Nat×Nat):noL (cutP c)=true:=by simp [cutP,noL,noLs]
theorem shape_cut (c:Nat×Nat):shapeD (cutP c):=shape_ok (okD_cut 0 c) (by decide)
theorem eqD_cut (c d:Nat×Nat):eqD (cutP c) (cutP d)=decide (c=d):=by
 unfold cutP
 rw [eqD_tup,eqDs_cons,eqDs_cons,eqDs_nil,eqD_int,eqD_int,Bool.and_true,← Bool.decide_and,decide_eq_decide]
 constructor
 ·
  rintro ⟨h1,h2⟩
  exact Prod.ext (by omega) (by omega)
 ·
  rintro rfl; exact ⟨rfl,rfl⟩
def gP (g:Rat×(Nat×Nat)):D:=.tup [frD g.1,cutP g.2]
theorem ix_g0 {g:Rat×(Nat×Nat)} {k:L→Prop}:opIx (gP g) (.int 0) k=k (.d (frD g.1)):=by
 show (∃ v,atI _ _=some v∧_)=_
 simp only [atI_0,Option.some.injEq,exists_eq_left']
theorem ix_g1 {g:Rat×(Nat×Nat)} {k:L→Prop}:opIx (gP g) (.int 1) k=k (.d (cutP g.2)):=by
 show (∃ v,atI _ _=some v∧_)=_
 simp only [atI_1,Option.some.injEq,exists_eq_left']
theorem isTy_non (T:String):isTy T .non=(T == "NoneType"):=rfl
theorem isTy_bl (T:String) (b:Bool):isTy T (.bl b)=(T == "bool" || T == "int"):=rfl
theorem isTy_int (T:String) (i:Int):isTy T (.int i)=(T == "int"):=rfl
theorem isTy_str (T:String) (x:Str):isTy T (.str x)=(T == "str"):=rfl
theorem isTy_tup (T:String) (xs:List D):isTy T (.tup xs)=(T == "tuple"):=rfl
theorem isTy_lst (T:String) (xs:List D):isTy T (.lst xs)=(T == "list"):=rfl
theorem isTy_tup_g (g:Rat×(Nat×Nat)):isTy "tuple" (gP g)=true:=rfl
theorem isTy_tup_cut (c:Nat×Nat):isTy "tuple" (cutP c)=true:=rfl
theorem isTy_tup_ask (a:Ask):isTy "tuple" (askD a)=true:=rfl
theorem opLen_cut {c:Nat×Nat} {k:L→Prop}:opLen [cutP c] k=k (.d (.int 2)):=rfl
theorem opLen_g {c:Rat×(Nat×Nat)} {k:L→Prop}:opLen [gP c] k=k (.d (.int 2)):=rfl
theorem noLs_cuts (cs:List (Nat×Nat)):noLs (cs.map cutP)=true:=noLs_map _ fun c _=>noL_cut c
theorem StOk.noL {xs:List D} (h:StOk xs):noLs xs=true:=by
 obtain ⟨c,sd,t,rfl,_,_⟩:=h
 rfl
end L2
namespace L2
open PySem PySem.Builtin.Str
theorem str_ext {x y:Str} (h:x.cps.toList=y.cps.toList):x=y:=by
 cases x; cases y
 exact congrArg Str.mk (Array.toList_inj.mp h)
theorem slice_to {x:Str} {j:Int} (h0:0≤j) (h2:j≤x.length):(Txt.slice x none (some j)).cps.toList=x.cps.toList.take j.toNat:=by
 have:=eq_of_beq (PyProof.Rows.slice_closes_toL h0 h2)
 rw [this]
 simp
theorem slice_from {x:Str} {i:Int} (h0:0≤i) (h2:i≤x.length):(Txt.slice x (some i) none).cps.toList=x.cps.toList.drop i.toNat:=by
 rw [PyProof.Rows.slice_from_eq h0 h2 rfl]
 have e:x.cps.toList.length=x.length:=by simp [Str.length]
 rw [List.take_of_length_le]
 rw [List.length_drop,e]
 omega
theorem cat_list (x y:Str):(x++y).cps.toList=x.cps.toList++y.cps.toList:=by
 show (x.cps++y.cps).toList=_
 simp
theorem len_list (x:Str):x.length=x.cps.toList.length:=by simp [Str.length]
def LetterC (c:Nat):Prop:=97≤c∧c≤122
structure NmOk (z:Str):Prop where
 lo:1≤z.cps.toList.length
 hi:z.cps.toList.length≤8
 let_:∀ c∈z.cps.toList,LetterC c
theorem NmOk.ok {z:Str} (h:NmOk z):PyData.strOk z=true:=by
 unfold PyData.strOk
 rw [← Array.all_toList,List.all_eq_true]
 intro c hc
 have:=h.let_ c hc
 unfold LetterC at this
 simp
 omega
def lettersS:Str:="abcdefghijklmnopqrstuvwxyz"
theorem letters_list:lettersS.cps.toList=(List.range 26).map (·+97):=by decide
theorem letters_at {i:Int} (h0:0≤i) (h1:i < 26):atI lettersS.cps.toList i=some (i.toNat+97):=by
 refine atI_of h0 ?_
 rw [letters_list,List.getElem?_map,List.getElem?_range (by omega)]
 rfl
theorem join_list_:∀ (zs:List Str),(Str.join "" zs).cps.toList=(zs.map fun z=>z.cps.toList).flatten
 | []=>rfl
 | [x]=>by simp [Str.join]
 | x::y::r=>by
  have ih:=join_list_ (y::r)
  show (x++("" : Str)++Str.join "" (y::r)).cps.toList=_
  rw [cat_list,cat_list,ih]
  show x.cps.toList++[]++_=_
  simp
theorem txt_join (zs:List Str):(Txt.join "" zs).cps.toList=(zs.map fun z=>z.cps.toList).flatten:=by
 rw [eq_of_beq (PyProof.Rows.join_closes (sep:="") (sep':="") (ys:=zs) rfl),join_list_]
theorem flat_ones:∀ cs:List Nat,(cs.map fun c=>[c]).flatten=cs
 | []=>rfl
 | c::cs=>by rw [List.map_cons,List.flatten_cons,flat_ones cs]; rfl
theorem join_ones_ (cs:List Nat):(Txt.join "" (cs.map fun c=>(⟨#[c]⟩:Str))).cps.toList=cs:=by
 rw [txt_join,List.map_map]
 exact flat_ones cs
theorem sum_ones:∀ cs:List Nat,((cs.map fun c=>(⟨#[c]⟩:Str)).map (·.length)).sum=cs.length
 | []=>rfl
 | c::cs=>by
  rw [List.map_cons,List.map_cons,List.sum_cons,sum_ones cs,List.length_cons]
  show 1+_=_
  omega
def nameAt (b:Str) (p t k:Nat):Str:=⟨(b.cps.toList.take p++[(t+k) % 26+97]++b.cps.toList.drop (p+1)).toArray⟩
theorem nameAt_ok {b:Str} {p t k:Nat} (h:NmOk b) (hp:p < b.cps.toList.length):NmOk (nameAt b p t k):=by
 have e:(nameAt b p t k).cps.toList=b.cps.toList.take p++[(t+k) % 26+97]++b.cps.toList.drop (p+1):=by simp [nameAt]
 have l:(b.cps.toList.take p++[(t+k) % 26+97]++b.cps.toList.drop (p+1)).length=b.cps.toList.length:=by
  rw [List.length_append,List.length_append,List.length_take,List.length_drop,List.length_singleton]
  omega
 refine ⟨by rw [e,l]; exact h.lo,by rw [e,l]; exact h.hi,fun c hc=>?_⟩
 rw [e] at hc
 rcases List.mem_append.mp hc with hc | hc
 ·
  rcases List.mem_append.mp hc with hc | hc
  ·
   exact h.let_ c (List.mem_of_mem_take hc)
  ·
   rw [List.mem_singleton.mp hc]
   unfold LetterC
   have:=Nat.mod_lt (t+k) (y:=26) (by decide)
   omega
 ·
  exact h.let_ c (List.mem_of_mem_drop hc)
theorem nameAt_inj {b:Str} {p t j k:Nat} (hp:p < b.cps.toList.length) (hj:j < 26) (hk:k < 26) (h:nameAt b p t j=nameAt b p t k):j=k:=by
 have e:b.cps.toList.take p++[(t+j) % 26+97]++b.cps.toList.drop (p+1)=b.cps.toList.take p++[(t+k) % 26+97]++b.cps.toList.drop (p+1):=by
  have:=congrArg (fun z:Str=>z.cps.toList) h
  simpa [nameAt] using this
 rw [List.append_assoc,List.append_assoc] at e
 have e2:=List.append_cancel_left e
 have e3:=(List.cons.inj e2).1
 omega
theorem nodup_map {α β:Type} {f:α→β}:∀ {xs:List α},xs.Nodup→(∀ x∈xs,∀ y∈xs,f x=f y→x=y)→(xs.map f).Nodup
 | [],_,_=>List.nodup_nil
 | x::xs,hn,h=>by
  rw [List.map_cons,List.nodup_cons]
  obtain ⟨h1,h2⟩:=List.nodup_cons.mp hn
  refine ⟨fun hm=>?_,nodup_map h2 fun a ha b hb=>h a (List.mem_cons_of_mem _ ha) b (List.mem_cons_of_mem _ hb)⟩
  obtain ⟨y,hy,e⟩:=List.mem_map.mp hm
  have:=h y (List.mem_cons_of_mem _ hy) x List.mem_cons_self e
  rw [this] at hy
  exact h1 hy
theorem lt_of_RB {q:Rat} (h:RB 60 q):q < ((2 ^ 300:Nat):Rat):=by
 have h1:=num_eq q
 have hd:(1:Rat)≤(q.den:Rat):=by
  have:=q.den_pos
  exact_mod_cast this
 have h2:(q.num:Rat) < ((2 ^ 300:Nat):Rat):=by
  have h3:q.num < ((2 ^ 300:Nat):Int):=by
   have:=Nat.lt_of_lt_of_le h.1 (Nat.pow_le_pow_right (show 0 < 2 by decide) (show 60≤300 by decide))
   omega
  exact Rat.intCast_lt_intCast.mpr h3
 have hV:(0:Rat) < ((2 ^ 300:Nat):Rat):=Rat.natCast_pos.mpr (Nat.pow_pos (by decide))
 generalize ((2 ^ 300:Nat):Rat)=V at *
 refine Rat.not_le.mp fun hq=>?_
 have h4:V*1≤q*(q.den:Rat):=Rat.le_trans (Rat.mul_le_mul_of_nonneg_left hd (Rat.le_of_lt hV)) (Rat.mul_le_mul_of_nonneg_right hq (by grind))
 rw [← h1] at h4
 grind
def denL:List Ask→Nat
 | []=>1
 | a::as=>a.size.den*denL as
theorem denL_pos:∀ as,0 < denL as
 | []=>Nat.one_pos
 | a::as=>Nat.mul_pos a.size.den_pos (denL_pos as)
theorem denL_le:∀ {as:List Ask},(∀ a∈as,RB 60 a.size)→denL as≤2 ^ (60*as.length)
 | [],_=>Nat.le_refl 1
 | a::as,h=>by
  have h1:=(h a List.mem_cons_self).2
  have h2:=denL_le (as:=as) fun p hp=>h p (List.mem_cons_of_mem _ hp)
  show a.size.den*denL as≤2 ^ (60*(as.length+1))
  rw [Nat.mul_add,Nat.mul_one,Nat.pow_add,Nat.mul_comm (2 ^ _)]
  exact Nat.mul_le_mul (Nat.le_of_lt h1) h2
theorem denL_dvd:∀ {as:List Ask} {a:Ask},a∈as→a.size.den∣denL as
 | b::as,a,h=>by
  rcases List.mem_cons.mp h with rfl | h
  ·
   exact Nat.dvd_mul_right _ _
  ·
   exact Nat.dvd_trans (denL_dvd h) (Nat.dvd_mul_left _ _)
theorem cd_of {as:List Ask} (h:∀ a∈as,RB 60 a.size) (hl:as.length≤20):∃ D:Nat,0 < D∧D < 2 ^ 1240∧∀ a∈as,a.size.den∣D:=by
 refine ⟨denL as,denL_pos as,Nat.lt_of_le_of_lt (denL_le h) (Nat.pow_lt_pow_right (by decide) (by omega)),fun a ha=>denL_dvd ha⟩
end L2
namespace L2
open PySem
def onL (n i j:Nat):List Nat:=(List.range ((j+n - i) % n)).map fun s=>(i+s) % n
def backL (n i j:Nat):List Nat:=(List.range ((i+n - j) % n)).map fun s=>(i+n - 1 - s) % n
def wayL (n:Nat) (a:Ask) (w:Bool):List Nat:=if w then onL n a.one a.other else backL n a.one a.other
def far (n i j:Nat):Nat:=(j+n - i) % n
theorem mod_cases {x n:Nat} (h:x < 2*n):x % n=if x < n then x else x - n:=by
 by_cases hx:x < n
 ·
  rw [if_pos hx,Nat.mod_eq_of_lt hx]
 ·
  rw [if_neg hx,Nat.mod_eq_sub_mod (by omega),Nat.mod_eq_of_lt (by omega)]
theorem far_eq {n i j:Nat} (hi:i < n) (hj:j < n):far n i j=if i≤j then j - i else j+n - i:=by
 unfold far
 rw [mod_cases (by omega)]
 split <;> split <;> omega
theorem far_lt {n i j:Nat} (hn:0 < n):far n i j < n:=Nat.mod_lt _ hn
theorem far_step {n i s:Nat} (hi:i < n) (hs:s < n):far n i ((i+s) % n)=s:=by
 have h1:=Nat.mod_lt (i+s) (y:=n) (by omega)
 rw [far_eq hi h1,mod_cases (by omega)]
 split <;> split <;> omega
theorem step_far {n i t:Nat} (hi:i < n) (ht:t < n):(i+far n i t) % n=t:=by
 have h1:=far_lt (n:=n) (i:=i) (j:=t) (by omega)
 rw [mod_cases (by omega),far_eq hi ht]
 split <;> split <;> omega
theorem far_sum {n i j:Nat} (hi:i < n) (hj:j < n) (h:i≠j):far n i j+far n j i=n:=by
 rw [far_eq hi hj,far_eq hj hi]
 split <;> split <;> omega
theorem mem_on {n i j t:Nat} (hi:i < n):t∈onL n i j↔t < n∧far n i t < far n i j:=by
 constructor
 ·
  intro h
  obtain ⟨s,hs,rfl⟩:=List.mem_map.mp h
  have hs:s < far n i j:=List.mem_range.mp hs
  have:=far_lt (n:=n) (i:=i) (j:=j) (by omega)
  exact ⟨Nat.mod_lt _ (by omega),by rw [far_step hi (by omega)]; exact hs⟩
 ·
  rintro ⟨ht,h⟩
  exact List.mem_map.mpr ⟨far n i t,List.mem_range.mpr h,step_far hi ht⟩
theorem back_as {n i s:Nat} (hi:i < n) (hs:s < n):(i+n - 1 - s) % n=(i+(n - 1 - s)) % n:=by
 congr 1
 omega
theorem mem_back {n i j t:Nat} (hi:i < n) (hj:j < n) (hij:i≠j):t∈backL n i j↔t < n∧¬ far n i t < far n i j:=by
 have hsum:=far_sum hi hj hij
 constructor
 ·
  intro h
  obtain ⟨s,hs,rfl⟩:=List.mem_map.mp h
  have hs:s < far n j i:=List.mem_range.mp hs
  refine ⟨Nat.mod_lt _ (by omega),?_⟩
  rw [back_as hi (by omega),far_step hi (by omega)]
  omega
 ·
  rintro ⟨ht,h⟩
  have:=far_lt (n:=n) (i:=i) (j:=t) (by omega)
  refine List.mem_map.mpr ⟨n - 1 - far n i t,List.mem_range.mpr (show _ < far n j i by omega),?_⟩
  rw [back_as hi (by omega)]
  have e:n - 1 - (n - 1 - far n i t)=far n i t:=by omega
  rw [e,step_far hi ht]
def isOn (n:Nat) (a:Ask) (t:Nat):Bool:=decide (far n a.one t < far n a.one a.other)
theorem mem_way {n:Nat} {a:Ask} (h:AskOk n a) (w:Bool) {t:Nat} (ht:t < n):t∈wayL n a w↔(isOn n a t == w)=true:=by
 have h1:=h.one
 have h2:=h.other
 cases w
 ·
  show t∈backL n a.one a.other↔_
  rw [mem_back h1 h2 h.ne]
  simp [isOn,ht]
 ·
  show t∈onL n a.one a.other↔_
  rw [mem_on h1]
  simp [isOn,ht]
end L2
namespace L2
open PySem
theorem RB.le {m n:Nat} {q:Rat} (h:RB m q) (hl:m≤n):RB n q:=h.mono hl
theorem RB.sum {b:Nat}:∀ (qs:List Rat),(∀ q∈qs,RB b q)→RB (1+(b+1)*qs.length) (sumQ qs)
 | [],_=>RB.mono (m:=1) ⟨by decide,by decide⟩ (by omega)
 | q::qs,h=>by
  have ih:=RB.sum qs fun z hz=>h z (List.mem_cons_of_mem _ hz)
  rw [sumQ_cons]
  refine ((h q List.mem_cons_self).add ih).mono ?_
  rw [List.length_cons,Nat.mul_succ]
  omega
theorem denP_le {b:Nat}:∀ (qs:List Rat),(∀ q∈qs,RB b q)→denP qs≤2 ^ (b*qs.length)
 | [],_=>Nat.le_refl 1
 | q::qs,h=>by
  have ih:=denP_le qs fun z hz=>h z (List.mem_cons_of_mem _ hz)
  show q.den*denP qs≤_
  refine Nat.le_trans (Nat.mul_le_mul (Nat.le_of_lt (h q List.mem_cons_self).2) ih) ?_
  rw [← Nat.pow_add,List.length_cons,Nat.mul_succ]
  exact Nat.pow_le_pow_right (by decide) (by omega)
def sent (n:Nat) (a:Ask) (p:Rat) (t:Nat):Rat:=if isOn n a t then p else a.size - p
def loadQ (n:Nat) (as:List Ask) (ps:List Rat) (t:Nat):Rat:=sumQ ((as.zip ps).map fun x=>sent n x.1 x.2 t)
theorem sent_RB {n c:Nat} {a:Ask} {p:Rat} (h:RB 60 a.size) (hp:RB c p) (t:Nat):RB (61+c) (sent n a p t):=by
 unfold sent
 split
 ·
  exact hp.mono (by omega)
 ·
  exact (h.sub hp).mono (by omega)
theorem loadQ_RB {n c:Nat} {as:List Ask} {ps:List Rat} (ha:∀ a∈as,RB 60 a.size) (hp:∀ p∈ps,RB c p) (hl:as.length≤20) (t:Nat):RB (1+(62+c)*20) (loadQ n as ps t):=by
 unfold loadQ
 have h:=RB.sum (b:=61+c) ((as.zip ps).map fun x=>sent n x.1 x.2 t) fun q hq=>by
  obtain ⟨x,hx,rfl⟩:=List.mem_map.mp hq
  obtain ⟨h1,h2⟩:=List.of_mem_zip (a:=x.1) (b:=x.2) hx
  exact sent_RB (ha _ h1) (hp _ h2) t
 refine h.mono ?_
 rw [List.length_map,List.length_zip]
 have:min as.length ps.length≤20:=by omega
 have e:61+c+1=62+c:=by omega
 rw [e]
 exact Nat.add_le_add_left (Nat.mul_le_mul_left _ this) 1
theorem take_mem {α:Type} {xs:List α} {k:Nat} {P:α→Prop} (h:∀ x∈xs,P x):∀ x∈xs.take k,P x:=fun x hx=>h x (List.mem_of_mem_take hx)
end L2
namespace L2
open PySem
end L2
namespace L2
open PySem
def within (c:Nat×Nat) (p:Nat):Bool:=decide (c.1 < p∧p≤c.2)
def apart (c:Nat×Nat) (i j:Nat):Bool:=within c i != within c j
def acrossQ (as:List Ask) (c:Nat×Nat):Rat:=sumQ ((as.filter fun a=>apart c a.one a.other).map (·.size))
def Ring.room (R:Ring) (t:Nat):Rat:=R.rooms.getD t 0
def roomsQ (R:Ring) (c:Nat×Nat):Rat:=R.room c.1+R.room c.2
def shownQ (R:Ring) (c:Nat×Nat):Rat:=acrossQ R.asks c / roomsQ R c
def IsCut (n:Nat) (c:Nat×Nat):Prop:=c.1≤c.2∧c.2 < n
theorem room_ok {R:Ring} (hR:R.Ok) {t:Nat} (h:t < R.n):0 < R.room t∧RB 60 (R.room t):=by
 have h':t < R.rooms.length:=h
 unfold Ring.room
 rw [List.getD_eq_getElem?_getD,List.getElem?_eq_getElem h']
 exact hR.room _ (List.getElem_mem h')
theorem rooms_pos {R:Ring} (hR:R.Ok) {c:Nat×Nat} (h:IsCut R.n c):0 < roomsQ R c∧RB 121 (roomsQ R c):=by
 have a:=room_ok hR (t:=c.1) (by have:=h.1; have:=h.2; omega)
 have b:=room_ok hR (t:=c.2) h.2
 unfold roomsQ
 exact ⟨by have:=a.1; have:=b.1; grind,a.2.add b.2⟩
def SumOk (qs:List Rat):Prop:=denP qs < 2 ^ 9000∨∃ D:Nat,0 < D∧D < 2 ^ 4400∧∀ q∈qs,q.den∣D
end L2
namespace L2
open PySem
theorem isOn_eq {n : Nat} {a : Ask} (h : AskOk n a) {t : Nat} (ht : t < n) : isOn n a t = ((decide (a.one ≤ t) != decide (a.other ≤ t)) != decide (a.other < a.one)) := by
  have h1 := h.one
  have h2 := h.other
  have hne := h.ne
  unfold isOn
  rw [far_eq h1 ht, far_eq h1 h2]
  by_cases a1 : a.one ≤ t <;> by_cases a2 : a.other ≤ t <;> by_cases a3 : a.other < a.one <;> by_cases a4 : a.one ≤ a.other
  all_goals
    simp only [a1, a2, a3, a4, if_true, if_false, decide_true, decide_false]
  all_goals first
    | omega
    | (first
        | (rw [decide_eq_true (by omega)]; rfl)
        | (rw [decide_eq_false (by omega)]; rfl))
theorem apart_iff {n:Nat} {a:Ask} (h:AskOk n a) {c:Nat×Nat} (hc:IsCut n c):apart c a.one a.other=(isOn n a c.1 != isOn n a c.2):=by
 have h1:=hc.1
 have h2:=hc.2
 rw [isOn_eq h (by omega),isOn_eq h h2]
 unfold apart within
 have e:∀ p:Nat,decide (c.1 < p∧p≤c.2)=(decide (p≤c.1) != decide (p≤c.2)):=fun p=>by
  by_cases q1:p≤c.1 <;> by_cases q2:p≤c.2
  ·
   rw [decide_eq_false (by omega)]; simp [q1,q2]
  ·
   omega
  ·
   rw [decide_eq_true (by omega)]; simp [q1,q2]
  ·
   rw [decide_eq_false (by omega)]; simp [q1,q2]
 rw [e,e]
 cases decide (a.one≤c.1) <;> cases decide (a.one≤c.2) <;> cases decide (a.other≤c.1) <;> cases decide (a.other≤c.2) <;> cases decide (a.other < a.one) <;> rfl
theorem div_le_iff' {a b c:Rat} (hb:0 < b):a / b≤c↔a≤c*b:=by
 rw [← Rat.not_lt,← Rat.not_lt,Rat.lt_div_iff hb]
end L2
namespace L2
open PySem
def Ring.sz (R:Ring) (k:Nat):Rat:=(R.asks.map (·.size)).getD k 0
end L2
namespace My
open PySem L2
end My
namespace My
open PySem L2
def askAt (R:Ring) (j:Nat):Ask:=(R.asks[j]?).getD ⟨"",0,0,0⟩
def onA (R:Ring) (j t:Nat):Bool:=isOn R.n (askAt R j) t
def dI (R:Ring) (w:Nat→Int) (k g h:Nat):Int:=((List.range (R.asks.length - k)).map fun i=>if onA R (k+i) g != onA R (k+i) h then w (k+i) else 0).sum
theorem askAt_ok {R:Ring} (hR:R.Ok) {j:Nat} (h:j < R.asks.length):AskOk R.n (askAt R j):=by
 unfold askAt
 rw [List.getElem?_eq_getElem h]
 exact hR.ask _ (List.getElem_mem h)
theorem askAt_eq {R:Ring} {j:Nat} (h:j < R.asks.length):askAt R j=R.asks[j]:=by
 unfold askAt
 rw [List.getElem?_eq_getElem h]
 rfl
theorem dI_comm (R:Ring) (w:Nat→Int) (k g h:Nat):dI R w k g h=dI R w k h g:=by
 unfold dI
 congr 1
 refine List.map_congr_left fun i _=>?_
 cases onA R (k+i) g <;> cases onA R (k+i) h <;> rfl
theorem dI_step (R:Ring) (w:Nat→Int) {k:Nat} (hk:k < R.asks.length) (g h:Nat):dI R w k g h=(if onA R k g != onA R k h then w k else 0)+dI R w (k+1) g h:=by
 unfold dI
 have e:R.asks.length - k=(R.asks.length - (k+1))+1:=by omega
 rw [e,List.range_succ_eq_map,List.map_cons,List.sum_cons,List.map_map]
 congr 2
 refine List.map_congr_left fun i _=>?_
 show (if onA R (k+(i+1)) g != onA R (k+(i+1)) h then w (k+(i+1)) else 0)=_
 rw [show k+(i+1)=k+1+i by omega]
theorem sumI_le2 {α:Type} (f1 f2 g1 g2:α→Int):∀ (xs:List α),(∀ x∈xs,f1 x+f2 x≤g1 x+g2 x)→(xs.map f1).sum+(xs.map f2).sum≤(xs.map g1).sum+(xs.map g2).sum
 | [],_=>by simp
 | x::xs,h=>by
  have h1:=h x List.mem_cons_self
  have h2:=sumI_le2 f1 f2 g1 g2 xs fun y hy=>h y (List.mem_cons_of_mem _ hy)
  simp only [List.map_cons,List.sum_cons]
  omega
theorem four_bits:∀ (u1 u2 u3 u4 v1 v2 v3 v4 c:Bool),(u1→u2)→(u2→u3)→(u3→u4)→(v1→v2)→(v2→v3)→(v3→v4) →
  ((((u1 != v1) != c) != ((u2 != v2) != c)).toNat+(((u3 != v3) != c) != ((u4 != v4) != c)).toNat≤(((u1 != v1) != c) != ((u3 != v3) != c)).toNat+(((u2 != v2) != c) != ((u4 != v4) != c)).toNat) ∧
  ((((u1 != v1) != c) != ((u4 != v4) != c)).toNat+(((u2 != v2) != c) != ((u3 != v3) != c)).toNat≤(((u1 != v1) != c) != ((u3 != v3) != c)).toNat+(((u2 != v2) != c) != ((u4 != v4) != c)).toNat) ∧
  (((u1 != v1) != c)=((u3 != v3) != c)→((u2 != v2) != c)=((u4 != v4) != c)→((u1 != v1) != c)=((u2 != v2) != c)):=by decide
theorem if_bits {w:Int} (hw:0≤w) {b1 b2 b3 b4:Bool} (h:b1.toNat+b2.toNat≤b3.toNat+b4.toNat):(if b1 then w else 0)+(if b2 then w else 0)≤(if b3 then w else 0)+(if b4 then w else 0):=by
 cases b1 <;> cases b2 <;> cases b3 <;> cases b4 <;> simp at h⊢<;> omega
theorem four_on {R:Ring} (hR:R.Ok) {j:Nat} (hj:j < R.asks.length) {p1 p2 p3 p4:Nat} (h12:p1≤p2) (h23:p2≤p3) (h34:p3≤p4) (h4:p4 < R.n) :
  ((onA R j p1 != onA R j p2).toNat+(onA R j p3 != onA R j p4).toNat≤(onA R j p1 != onA R j p3).toNat+(onA R j p2 != onA R j p4).toNat) ∧
  ((onA R j p1 != onA R j p4).toNat+(onA R j p2 != onA R j p3).toNat≤(onA R j p1 != onA R j p3).toNat+(onA R j p2 != onA R j p4).toNat) ∧
  (onA R j p1=onA R j p3→onA R j p2=onA R j p4→onA R j p1=onA R j p2):=by
 have ha:=askAt_ok hR hj
 unfold onA
 rw [isOn_eq ha (show p1 < R.n by omega),isOn_eq ha (show p2 < R.n by omega),isOn_eq ha (show p3 < R.n by omega),isOn_eq ha h4]
 exact four_bits _ _ _ _ _ _ _ _ _ (by simp only [decide_eq_true_eq]; omega) (by simp only [decide_eq_true_eq]; omega) (by simp only [decide_eq_true_eq]; omega) (by simp only [decide_eq_true_eq]; omega) (by simp only [decide_eq_true_eq]; omega) (by simp only [decide_eq_true_eq]; omega)
theorem dI_cross {R:Ring} (hR:R.Ok) {w:Nat→Int} (hw:∀ j,j < R.asks.length→0≤w j) (k:Nat) {p1 p2 p3 p4:Nat} (h12:p1≤p2) (h23:p2≤p3) (h34:p3≤p4) (h4:p4 < R.n) :
  dI R w k p1 p2+dI R w k p3 p4≤dI R w k p1 p3+dI R w k p2 p4∧dI R w k p1 p4+dI R w k p2 p3≤dI R w k p1 p3+dI R w k p2 p4:=by
 unfold dI
 refine ⟨sumI_le2 _ _ _ _ _ fun i hi=>?_,sumI_le2 _ _ _ _ _ fun i hi=>?_⟩
 all_goals
  have hj:k+i < R.asks.length:=by have:=List.mem_range.mp hi; omega
  have h:=four_on hR hj h12 h23 h34 h4
 ·
  exact if_bits (hw _ hj) h.1
 ·
  exact if_bits (hw _ hj) h.2.1
def CutOk (R:Ring) (w f:Nat→Int) (k:Nat):Prop:=∀ g h,g < R.n→h < R.n→dI R w k g h≤f g+f h∧(f g+f h - dI R w k g h) % 2=0
def leftF (R:Ring) (w f:Nat→Int) (k:Nat) (p:Int) (t:Nat):Int:=f t - if onA R k t then p else w k - p
theorem cut_step {R:Ring} (hR:R.Ok) {w f:Nat→Int} (hw:∀ j,j < R.asks.length→0≤w j) {k:Nat} (hk:k < R.asks.length) (hc:CutOk R w f k) {p:Int}
  (hp:∀ g h,g < R.n→h < R.n→onA R k g=true→onA R k h=true→g≤h→2*p≤f g+f h - dI R w (k+1) g h)
  (hq:p=w k∨∃ a b,a < R.n∧b < R.n∧onA R k a=true∧onA R k b=true∧a≤b∧2*p=f a+f b - dI R w (k+1) a b):CutOk R w (leftF R w f k p) (k+1):=by
 have main:∀ g h,g < R.n→h < R.n→g≤h→dI R w (k+1) g h≤leftF R w f k p g+leftF R w f k p h∧(leftF R w f k p g+leftF R w f k p h - dI R w (k+1) g h) % 2=0:=by
  intro g h hg hh hgh
  obtain ⟨c1,c2⟩:=hc g h hg hh
  have st:=dI_step R w hk g h
  unfold leftF
  cases eg:onA R k g <;> cases eh:onA R k h <;> rw [eg,eh] at st
  ·
   simp only [bne_self_eq_false,Bool.false_eq_true,if_false] at st ⊢
   refine ⟨?_,by omega⟩
   rcases hq with hq | ⟨a,b,ha,hb,ea,eb,hab,e2⟩
   ·
    omega
   ·
    have sag:dI R w k a g=w k+dI R w (k+1) a g:=by rw [dI_step R w hk,ea,eg]; rfl
    have sbh:dI R w k b h=w k+dI R w (k+1) b h:=by rw [dI_step R w hk,eb,eh]; rfl
    have sah:dI R w k a h=w k+dI R w (k+1) a h:=by rw [dI_step R w hk,ea,eh]; rfl
    have sbg:dI R w k b g=w k+dI R w (k+1) b g:=by rw [dI_step R w hk,eb,eg]; rfl
    have cag:=(hc a g ha hg).1
    have cbh:=(hc b h hb hh).1
    have cah:=(hc a h ha hh).1
    have cbg:=(hc b g hb hg).1
    by_cases o1:b≤g
    ·
     have:=(dI_cross hR hw (k+1) hab o1 hgh hh).1
     omega
    ·
     by_cases o2:h≤a
     ·
      have:=(dI_cross hR hw (k+1) hgh o2 hab hb).1
      rw [dI_comm R w (k+1) g a,dI_comm R w (k+1) h b] at this
      omega
     ·
      by_cases o3:g≤a
      ·
       by_cases o4:b≤h
       ·
        have:=(dI_cross hR hw (k+1) o3 hab o4 hh).2
        rw [dI_comm R w (k+1) g b] at this
        omega
       ·
        exfalso
        have:=(four_on hR hk o3 (show a≤h by omega) (show h≤b by omega) hb).2.2
        rw [eg,ea,eh,eb] at this
        exact absurd (this rfl rfl) (by decide)
      ·
       by_cases o4:h≤b
       ·
        have:=(dI_cross hR hw (k+1) (show a≤g by omega) hgh o4 hb).2
        rw [dI_comm R w (k+1) g b] at this
        omega
       ·
        exfalso
        have:=(four_on hR hk (show a≤g by omega) (show g≤b by omega) (show b≤h by omega) hh).2.2
        rw [eg,ea,eh,eb] at this
        exact absurd (this rfl rfl) (by decide)
  ·
   simp only [Bool.false_bne,if_true,if_false,Bool.false_eq_true] at st ⊢
   exact ⟨by omega,by omega⟩
  ·
   simp only [Bool.bne_false,if_true,if_false,Bool.false_eq_true] at st ⊢
   exact ⟨by omega,by omega⟩
  ·
   simp only [bne_self_eq_false,Bool.false_eq_true,if_false,if_true] at st ⊢
   have:=hp g h hg hh eg eh hgh
   exact ⟨by omega,by omega⟩
 intro g h hg hh
 by_cases hgh:g≤h
 ·
  exact main g h hg hh hgh
 ·
  have:=main h g hh hg (by omega)
  rw [dI_comm R w (k+1) h g] at this
  exact ⟨by omega,by omega⟩
end My
namespace My
open PySem L2
def mnI (i j:Int):Int:=if j < i then j else i
theorem foldmin {α:Type} (c:α→Bool) (v:α→Int):∀ (xs:List α) (acc r:Int),xs.foldl (fun t x=>if c x then mnI t (v x) else t) acc=r →
  r≤acc∧(∀ x∈xs,c x=true→r≤v x)∧(r=acc∨∃ x∈xs,c x=true∧r=v x)
 | [],acc,r,e=>by
  rw [List.foldl_nil] at e
  subst e
  exact ⟨Int.le_refl _,fun x hx=>by simp at hx,.inl rfl⟩
 | x::xs,acc,r,e=>by
  rw [List.foldl_cons] at e
  obtain ⟨h1,h2,h3⟩:=foldmin c v xs _ r e
  unfold mnI at h1 h3
  by_cases hc:c x=true
  ·
   rw [if_pos hc] at h1 h3
   by_cases hl:v x < acc
   ·
    rw [if_pos hl] at h1 h3
    refine ⟨by omega,fun y hy hy'=>?_,?_⟩
    ·
     rcases List.mem_cons.mp hy with rfl | hy
     ·
      exact h1
     ·
      exact h2 y hy hy'
    ·
     rcases h3 with h3 | ⟨y,hy,hc',e⟩
     ·
      exact .inr ⟨x,List.mem_cons_self,hc,h3⟩
     ·
      exact .inr ⟨y,List.mem_cons_of_mem _ hy,hc',e⟩
   ·
    rw [if_neg hl] at h1 h3
    refine ⟨by omega,fun y hy hy'=>?_,?_⟩
    ·
     rcases List.mem_cons.mp hy with rfl | hy
     ·
      omega
     ·
      exact h2 y hy hy'
    ·
     rcases h3 with h3 | ⟨y,hy,hc',e⟩
     ·
      exact .inl h3
     ·
      exact .inr ⟨y,List.mem_cons_of_mem _ hy,hc',e⟩
  ·
   rw [if_neg hc] at h1 h3
   refine ⟨h1,fun y hy hy'=>?_,?_⟩
   ·
    rcases List.mem_cons.mp hy with rfl | hy
    ·
     exact absurd hy' hc
    ·
     exact h2 y hy hy'
   ·
    rcases h3 with h3 | ⟨y,hy,hc',e⟩
    ·
     exact .inl h3
    ·
     exact .inr ⟨y,List.mem_cons_of_mem _ hy,hc',e⟩
def onT (R:Ring) (k:Nat):List Nat:=(PySem.W.sortI ((wayL R.n (askAt R k) true).map fun (t:Nat)=>(t:Int))).map Int.toNat
theorem mem_onT {R:Ring} {k t:Nat}:t∈onT R k↔t∈wayL R.n (askAt R k) true:=by
 unfold onT
 constructor
 ·
  intro h
  obtain ⟨x,hx,rfl⟩:=List.mem_map.mp h
  obtain ⟨s,hs,rfl⟩:=List.mem_map.mp ((PySem.W.sortI_perm _).mem_iff.mp hx)
  exact hs
 ·
  intro h
  exact List.mem_map.mpr ⟨(t:Int),(PySem.W.sortI_perm _).mem_iff.mpr (List.mem_map.mpr ⟨t,h,rfl⟩),rfl⟩
theorem way_lt {n:Nat} {a:Ask} (h:AskOk n a) {t:Nat} (ht:t∈wayL n a true):t < n:=by
 have h1:=h.one
 unfold wayL onL at ht
 simp only [if_true] at ht
 obtain ⟨s,_,rfl⟩:=List.mem_map.mp ht
 exact Nat.mod_lt _ (by omega)
theorem onT_iff {R:Ring} (hR:R.Ok) {k:Nat} (hk:k < R.asks.length) {t:Nat}:t∈onT R k↔t < R.n∧onA R k t=true:=by
 have ha:=askAt_ok hR hk
 rw [mem_onT]
 constructor
 ·
  intro h
  have ht:=way_lt ha h
  have:=(mem_way ha true ht).mp h
  exact ⟨ht,by unfold onA; simpa using this⟩
 ·
  rintro ⟨ht,h⟩
  refine (mem_way ha true ht).mpr ?_
  unfold onA at h
  rw [h]; rfl
def valI (R:Ring) (w f:Nat→Int) (k g h:Nat):Int:=f g+f h - dI R w (k+1) g h
def innerI (R:Ring) (w f:Nat→Int) (k:Nat) (acc:Int) (g:Nat) (hs:List Nat):Int:=hs.foldl (fun t h=>if decide (g≤h) then mnI t (valI R w f k g h) else t) acc
def twiceI (R:Ring) (w f:Nat→Int) (k:Nat) (gs:List Nat):Int:=gs.foldl (fun t g=>innerI R w f k t g (onT R k)) (2*w k)
def partI (R:Ring) (w f:Nat→Int) (k:Nat):Int:=(twiceI R w f k (onT R k)).fdiv 2
theorem twice_ok (R:Ring) (w f:Nat→Int) (k:Nat):∀ (gs:List Nat) (acc r:Int),gs.foldl (fun t g=>innerI R w f k t g (onT R k)) acc=r →
  r≤acc∧(∀ g∈gs,∀ h∈onT R k,g≤h→r≤valI R w f k g h)∧(r=acc∨∃ g∈gs,∃ h∈onT R k,g≤h∧r=valI R w f k g h)
 | [],acc,r,e=>by
  rw [List.foldl_nil] at e
  subst e
  exact ⟨Int.le_refl _,fun x hx=>by simp at hx,.inl rfl⟩
 | g::gs,acc,r,e=>by
  rw [List.foldl_cons] at e
  obtain ⟨i1,i2,i3⟩:=foldmin (fun h=>decide (g≤h)) (valI R w f k g) (onT R k) acc _ rfl
  obtain ⟨h1,h2,h3⟩:=twice_ok R w f k gs _ r e
  unfold innerI at h1 h3
  generalize (onT R k).foldl (fun t h=>if decide (g≤h) then mnI t (valI R w f k g h) else t) acc=z at *
  refine ⟨by omega,fun y hy h hh hyh=>?_,?_⟩
  ·
   rcases List.mem_cons.mp hy with rfl | hy
   ·
    have:=i2 h hh (decide_eq_true hyh)
    omega
   ·
    exact h2 y hy h hh hyh
  ·
   rcases h3 with h3 | ⟨y,hy,h,hh,c,e⟩
   ·
    rcases i3 with i3 | ⟨h,hh,c,e⟩
    ·
     exact .inl (h3.trans i3)
    ·
     exact .inr ⟨g,List.mem_cons_self,h,hh,of_decide_eq_true c,h3.trans e⟩
   ·
    exact .inr ⟨y,List.mem_cons_of_mem _ hy,h,hh,c,e⟩
theorem part_ok {R:Ring} (hR:R.Ok) {w f:Nat→Int} (hw:∀ j,j < R.asks.length→0≤w j) {k:Nat} (hk:k < R.asks.length) (hc:CutOk R w f k) :
  0≤partI R w f k∧partI R w f k≤w k∧CutOk R w (leftF R w f k (partI R w f k)) (k+1):=by
 obtain ⟨h1,h2,h3⟩:=twice_ok R w f k (onT R k) (2*w k) _ rfl
 have e:twiceI R w f k (onT R k)=(onT R k).foldl (fun t g=>innerI R w f k t g (onT R k)) (2*w k):=rfl
 have hwk:=hw k hk
 have hv:∀ g h,g∈onT R k→h∈onT R k→0≤valI R w f k g h∧valI R w f k g h % 2=0:=fun g h hg hh=>by
  obtain ⟨g1,g2⟩:=(onT_iff hR hk).mp hg
  obtain ⟨k1,k2⟩:=(onT_iff hR hk).mp hh
  obtain ⟨c1,c2⟩:=hc g h g1 k1
  have st:=dI_step R w hk g h
  rw [g2,k2] at st
  simp only [bne_self_eq_false,Bool.false_eq_true,if_false] at st
  unfold valI
  exact ⟨by omega,by omega⟩
 unfold partI
 rw [e,Int.fdiv_eq_ediv_of_nonneg _ (by decide)]
 generalize (onT R k).foldl (fun t g=>innerI R w f k t g (onT R k)) (2*w k)=r at *
 have hr:0≤r∧r % 2=0:=by
  rcases h3 with rfl | ⟨g,hg,h,hh,_,rfl⟩
  ·
   omega
  ·
   exact hv g h hg hh
 have hp:2*(r / 2)=r:=by omega
 refine ⟨by omega,by omega,cut_step hR hw hk hc (fun g h hg hh eg eh hgh=>?_) ?_⟩
 ·
  rw [hp]
  exact h2 g ((onT_iff hR hk).mpr ⟨hg,eg⟩) h ((onT_iff hR hk).mpr ⟨hh,eh⟩) hgh
 ·
  rcases h3 with h3 | ⟨g,hg,h,hh,hgh,h3⟩
  ·
   exact .inl (by omega)
  ·
   obtain ⟨g1,g2⟩:=(onT_iff hR hk).mp hg
   obtain ⟨k1,k2⟩:=(onT_iff hR hk).mp hh
   exact .inr ⟨g,h,g1,k1,g2,k2,hgh,by rw [hp]; exact h3⟩
def fAt (R:Ring) (w f:Nat→Int):Nat→Nat→Int
 | 0=>f
 | k+1=>leftF R w (fAt R w f k) k (partI R w (fAt R w f k) k)
def pAt (R:Ring) (w f:Nat→Int) (k:Nat):Int:=partI R w (fAt R w f k) k
theorem run_ok {R:Ring} (hR:R.Ok) {w f:Nat→Int} (hw:∀ j,j < R.asks.length→0≤w j) (hc:CutOk R w f 0):∀ k,k≤R.asks.length→CutOk R w (fAt R w f k) k
 | 0,_=>hc
 | k+1,h=>(part_ok hR hw (by omega) (run_ok hR hw hc k (by omega))).2.2
theorem parts_ok {R:Ring} (hR:R.Ok) {w f:Nat→Int} (hw:∀ j,j < R.asks.length→0≤w j) (hc:CutOk R w f 0) {k:Nat} (hk:k < R.asks.length):0≤pAt R w f k∧pAt R w f k≤w k :=
 let h:=part_ok hR hw hk (run_ok hR hw hc k (by omega))
 ⟨h.1,h.2.1⟩
end My
namespace My
open PySem L2
theorem den_dvd {t b:Int} (h:b≠0):(Rat.divInt t b).den∣b.natAbs:=by
 rw [Rat.den_divInt,if_neg h]
 exact Nat.div_dvd_of_dvd (by rw [Int.gcd]; exact Nat.gcd_dvd_left _ _)
theorem mul_den_dvd (p q:Rat):(p*q).den∣p.den*q.den:=by
 have e:p*q=Rat.divInt (p.num*q.num) ((p.den:Int)*q.den):=by
  rw [← Rat.divInt_mul_divInt,Rat.num_divInt_den,Rat.num_divInt_den]
 rw [e]
 have:=den_dvd (t:=p.num*q.num) (b:=(p.den:Int)*q.den) (Int.mul_ne_zero (den_neI _) (den_neI _))
 rwa [Int.natAbs_mul,Int.natAbs_natCast,Int.natAbs_natCast] at this
theorem num_cast (q:Rat):(q.num:Rat)=q*(q.den:Rat):=by
 have h:((q.den:Int):Rat)≠0:=fun e=>den_neI q (by
  have:((q.den:Int):Rat)=((0:Int):Rat):=e
  exact Rat.intCast_inj.mp this)
 have e:q=(q.num:Rat) / ((q.den:Int):Rat):=by
  conv=>lhs; rw [← Rat.num_divInt_den q,Rat.divInt_eq_div]
 have:=Rat.div_mul_cancel (a:=(q.num:Rat)) h
 rw [← e] at this
 exact this.symm
def cbN (qs:List Rat):Nat:=qs.foldl (fun b q=>Nat.lcm b q.den) 1
theorem cb_from:∀ (qs:List Rat) (b:Nat),b∣qs.foldl (fun b q=>Nat.lcm b q.den) b∧(∀ q∈qs,q.den∣qs.foldl (fun b q=>Nat.lcm b q.den) b)∧∀ P,b∣P→(∀ q∈qs,q.den∣P)→qs.foldl (fun b q=>Nat.lcm b q.den) b∣P
 | [],b=>⟨Nat.dvd_refl _,fun q hq=>by simp at hq,fun P h _=>h⟩
 | q::qs,b=>by
  obtain ⟨h1,h2,h3⟩:=cb_from qs (Nat.lcm b q.den)
  rw [List.foldl_cons]
  refine ⟨Nat.dvd_trans (Nat.dvd_lcm_left _ _) h1,fun p hp=>?_,fun P hb hP=>h3 P (Nat.lcm_dvd hb (hP q List.mem_cons_self)) fun p hp=>hP p (List.mem_cons_of_mem _ hp)⟩
  rcases List.mem_cons.mp hp with rfl | hp
  ·
   exact Nat.dvd_trans (Nat.dvd_lcm_right _ _) h1
  ·
   exact h2 p hp
theorem cb_dvd {qs:List Rat} {q:Rat} (h:q∈qs):q.den∣cbN qs:=(cb_from qs 1).2.1 q h
theorem cb_le {qs:List Rat} {P:Nat} (h:∀ q∈qs,q.den∣P):cbN qs∣P:=(cb_from qs 1).2.2 P (Nat.one_dvd _) h
def unitI (u:Nat) (q:Rat):Int:=q.num*((u / q.den:Nat):Int)
theorem unit_cast {u:Nat} {q:Rat} (h:q.den∣u):((unitI u q:Int):Rat)=q*(u:Rat):=by
 obtain ⟨c,rfl⟩:=h
 unfold unitI
 rw [Nat.mul_div_cancel_left _ (den_pos q),Rat.intCast_mul,num_cast,Rat.intCast_natCast,Rat.natCast_mul,Rat.mul_assoc]
theorem unit_even {B:Nat} {q:Rat} (h:q.den∣B):unitI (2*B) q % 2=0:=by
 obtain ⟨c,rfl⟩:=h
 unfold unitI
 rw [show 2*(q.den*c)=q.den*(2*c) by rw [← Nat.mul_assoc,← Nat.mul_assoc,Nat.mul_comm 2],Nat.mul_div_cancel_left _ (den_pos q)]
 rw [show ((2*c:Nat):Int)=2*(c:Int) by omega,← Int.mul_assoc,Int.mul_comm q.num 2,Int.mul_assoc]
 exact Int.mul_emod_right _ _
theorem unit_nonneg {u:Nat} {q:Rat} (h:0≤q):0≤unitI u q:=Int.mul_nonneg (Rat.num_nonneg.mpr h) (Int.natCast_nonneg _)
def sizesL (R:Ring):List Rat:=R.asks.map (·.size)
def mostL (R:Ring) (q:Rat):List Rat:=R.rooms.map fun r=>q*r
def cbR (R:Ring) (q:Rat):Nat:=cbN (sizesL R++mostL R q)
def unitsN (R:Ring) (q:Rat):Nat:=2*cbR R q
def wI (R:Ring) (q:Rat) (j:Nat):Int:=unitI (unitsN R q) (askAt R j).size
def f0I (R:Ring) (q:Rat) (t:Nat):Int:=unitI (unitsN R q) (q*R.room t)
theorem size_den {R:Ring} {j:Nat} (h:j < R.asks.length) (q:Rat):(askAt R j).size.den∣cbR R q:=by
 refine cb_dvd (List.mem_append_left _ (List.mem_map.mpr ⟨askAt R j,?_,rfl⟩))
 rw [askAt_eq h]
 exact List.getElem_mem h
theorem room_mem {R:Ring} {t:Nat} (h:t < R.n):R.room t∈R.rooms:=by
 unfold Ring.room
 have h':t < R.rooms.length:=h
 rw [List.getD_eq_getElem?_getD,List.getElem?_eq_getElem h']
 exact List.getElem_mem h'
theorem most_den {R:Ring} {t:Nat} (h:t < R.n) (q:Rat):(q*R.room t).den∣cbR R q :=
 cb_dvd (List.mem_append_right _ (List.mem_map.mpr ⟨R.room t,room_mem h,rfl⟩))
theorem dvd_two {a b:Nat} (h:a∣b):a∣2*b:=Nat.dvd_trans h (Nat.dvd_mul_left _ _)
theorem w_cast {R:Ring} {q:Rat} {j:Nat} (h:j < R.asks.length):((wI R q j:Int):Rat)=(askAt R j).size*(unitsN R q:Rat):=unit_cast (dvd_two (size_den h q))
theorem f_cast {R:Ring} {q:Rat} {t:Nat} (h:t < R.n):((f0I R q t:Int):Rat)=q*R.room t*(unitsN R q:Rat):=unit_cast (dvd_two (most_den h q))
theorem w_nonneg {R:Ring} (hR:R.Ok) (q:Rat):∀ j,j < R.asks.length→0≤wI R q j:=fun j h=>unit_nonneg (askAt_ok hR h).size
theorem denP_dvd:∀ {qs:List Rat} {q:Rat},q∈qs→q.den∣denP qs
 | p::qs,q,h=>by
  show q.den∣p.den*denP qs
  rcases List.mem_cons.mp h with rfl | h
  ·
   exact Nat.dvd_mul_right _ _
  ·
   exact Nat.dvd_trans (denP_dvd h) (Nat.dvd_mul_left _ _)
theorem denP_lt:∀ {qs:List Rat},(∀ q∈qs,RB 60 q)→denP qs≤2 ^ (60*qs.length)
 | [],_=>Nat.le_refl 1
 | q::qs,h=>by
  have h1:=(h q List.mem_cons_self).2
  have h2:=denP_lt fun p hp=>h p (List.mem_cons_of_mem _ hp)
  show q.den*denP qs≤2 ^ (60*(qs.length+1))
  rw [Nat.mul_add,Nat.mul_one,Nat.pow_add,Nat.mul_comm (2 ^ _)]
  exact Nat.mul_le_mul (Nat.le_of_lt h1) h2
theorem cb_pos (R:Ring) (q:Rat):0 < cbR R q:=by
 have hd:cbR R q∣denP (sizesL R++mostL R q):=cb_le fun p hp=>denP_dvd hp
 exact Nat.pos_of_dvd_of_pos hd (denP_pos _)
theorem units_lt {R:Ring} (hR:R.Ok) {q:Rat} (hq:RB 1750 q):0 < unitsN R q∧unitsN R q < 2 ^ 3750:=by
 obtain ⟨D,d0,d1,hD⟩:=hR.cd
 have hd:cbR R q∣D*(q.den*denP R.rooms):=by
  refine cb_le fun p hp=>?_
  rcases List.mem_append.mp hp with hp | hp
  ·
   obtain ⟨a,ha,rfl⟩:=List.mem_map.mp hp
   exact Nat.dvd_trans (hD a ha) (Nat.dvd_mul_right _ _)
  ·
   obtain ⟨r,hr,rfl⟩:=List.mem_map.mp hp
   refine Nat.dvd_trans (mul_den_dvd q r) (Nat.dvd_trans (Nat.mul_dvd_mul_left _ (denP_dvd hr)) (Nat.dvd_mul_left _ _))
 have h1:D≤2 ^ 1240:=Nat.le_of_lt d1
 have h2:denP R.rooms≤2 ^ 720:=by
  refine Nat.le_trans (denP_lt fun p hp=>(hR.room p hp).2) (Nat.pow_le_pow_right (by decide) ?_)
  have:R.rooms.length≤12:=hR.hi
  omega
 have h3:q.den≤2 ^ 1750:=Nat.le_of_lt hq.2
 have h4:cbR R q≤D*(q.den*denP R.rooms):=Nat.le_of_dvd (Nat.mul_pos d0 (Nat.mul_pos (den_pos _) (denP_pos _))) hd
 have h5:D*(q.den*denP R.rooms)≤2 ^ 1240*(2 ^ 1750*2 ^ 720):=Nat.mul_le_mul h1 (Nat.mul_le_mul h3 h2)
 have h6:2 ^ 1240*(2 ^ 1750*2 ^ 720)=2 ^ 3710:=by rw [← Nat.pow_add,← Nat.pow_add]
 rw [h6] at h5
 have h0:=cb_pos R q
 have h7:(2:Nat) ^ 3711=2*2 ^ 3710:=by rw [Nat.pow_succ,Nat.mul_comm]
 have h8:(2:Nat) ^ 3711 < 2 ^ 3750:=Nat.pow_lt_pow_right (by decide) (by decide)
 unfold unitsN
 refine ⟨by omega,?_⟩
 generalize (2:Nat) ^ 3750=z at *
 generalize (2:Nat) ^ 3710=y at *
 generalize (2:Nat) ^ 3711=x at *
 omega
end My
namespace My
open PySem L2
theorem asks_range (R:Ring):R.asks=(List.range R.asks.length).map (askAt R):=by
 refine List.ext_getElem (by simp) fun j h1 h2=>?_
 rw [List.getElem_map,List.getElem_range,askAt_eq h1]
theorem sum_filterQ {α:Type} (p:α→Bool) (f:α→Rat):∀ xs:List α,sumQ ((xs.filter p).map f)=sumQ (xs.map fun a=>if p a then f a else 0)
 | []=>rfl
 | x::xs=>by
  rw [List.filter_cons,List.map_cons,sumQ_cons,← sum_filterQ p f xs]
  cases p x
  ·
   simp [Rat.zero_add]
  ·
   simp [sumQ_cons]
theorem across_range (R:Ring) (c:Nat×Nat):acrossQ R.asks c=sumQ ((List.range R.asks.length).map fun j=>if apart c (askAt R j).one (askAt R j).other then (askAt R j).size else 0):=by
 unfold acrossQ
 rw [sum_filterQ]
 conv=>lhs; rw [asks_range R,List.map_map]
 rfl
theorem sum_cast (F:Nat→Int) (G:Nat→Rat) (u:Rat):∀ xs:List Nat,(∀ j∈xs,((F j:Int):Rat)=G j*u)→(((xs.map F).sum:Int):Rat)=sumQ (xs.map G)*u
 | [],_=>by
  show ((0:Int):Rat)=0*u
  rw [Rat.zero_mul]; rfl
 | x::xs,h=>by
  rw [List.map_cons,List.sum_cons,Rat.intCast_add,h x List.mem_cons_self,sum_cast F G u xs fun j hj=>h j (List.mem_cons_of_mem _ hj),List.map_cons,sumQ_cons,Rat.add_mul]
theorem dI_cast {R:Ring} (hR:R.Ok) {q:Rat} {g h:Nat} (hc:IsCut R.n (g,h)):((dI R (wI R q) 0 g h:Int):Rat)=acrossQ R.asks (g,h)*(unitsN R q:Rat):=by
 rw [across_range]
 unfold dI
 rw [Nat.sub_zero]
 refine sum_cast _ _ _ _ fun j hj=>?_
 have hj:=List.mem_range.mp hj
 rw [Nat.zero_add,apart_iff (askAt_ok hR hj) hc]
 show (((if onA R j g != onA R j h then wI R q j else 0:Int)):Rat)=(if onA R j g != onA R j h then (askAt R j).size else 0)*_
 cases (onA R j g != onA R j h)
 ·
  simp only [Bool.false_eq_true,if_false]
  rw [Rat.zero_mul]; rfl
 ·
  simp only [if_true]
  exact w_cast hj
theorem sum_even (F:Nat→Int):∀ xs:List Nat,(∀ j∈xs,F j % 2=0)→(xs.map F).sum % 2=0
 | [],_=>rfl
 | x::xs,h=>by
  have h1:=h x List.mem_cons_self
  have h2:=sum_even F xs fun j hj=>h j (List.mem_cons_of_mem _ hj)
  rw [List.map_cons,List.sum_cons]
  omega
theorem start_ok {R:Ring} (hR:R.Ok) {q:Rat} (hq:RB 1750 q) (hs:∀ c,IsCut R.n c→shownQ R c≤q):CutOk R (wI R q) (f0I R q) 0:=by
 have u0:0 < unitsN R q:=(units_lt hR hq).1
 have uQ:(0:Rat) < (unitsN R q:Rat):=Rat.natCast_pos.mpr u0
 have main:∀ g h,g < R.n→h < R.n→g≤h→dI R (wI R q) 0 g h≤f0I R q g+f0I R q h:=by
  intro g h hg hh hgh
  have hc:IsCut R.n (g,h):=⟨hgh,hh⟩
  refine Rat.intCast_le_intCast.mp ?_
  rw [dI_cast hR hc,Rat.intCast_add,f_cast hg,f_cast hh]
  have h1:=hs (g,h) hc
  unfold shownQ at h1
  rw [div_le_iff' (rooms_pos hR hc).1] at h1
  have h2:=Rat.mul_le_mul_of_nonneg_right h1 (Rat.le_of_lt uQ)
  have e:q*roomsQ R (g,h)*(unitsN R q:Rat)=q*R.room g*(unitsN R q:Rat)+q*R.room h*(unitsN R q:Rat):=by
   show q*(R.room g+R.room h)*_=_
   rw [Rat.mul_add,Rat.add_mul]
  rw [← e]
  exact h2
 have ev:∀ g h,g < R.n→h < R.n→(f0I R q g+f0I R q h - dI R (wI R q) 0 g h) % 2=0:=by
  intro g h hg hh
  have e1:f0I R q g % 2=0:=unit_even (most_den hg q)
  have e2:f0I R q h % 2=0:=unit_even (most_den hh q)
  have e3:dI R (wI R q) 0 g h % 2=0:=by
   unfold dI
   refine sum_even _ _ fun j hj=>?_
   have hj:j < R.asks.length:=by have:=List.mem_range.mp hj; omega
   rw [Nat.zero_add]
   split
   ·
    exact unit_even (size_den hj q)
   ·
    rfl
  omega
 intro g h hg hh
 refine ⟨?_,ev g h hg hh⟩
 by_cases hgh:g≤h
 ·
  exact main g h hg hh hgh
 ·
  have:=main h g hh hg (by omega)
  rw [dI_comm] at this
  omega
def pI (R:Ring) (q:Rat) (k:Nat):Int:=pAt R (wI R q) (f0I R q) k
end My
namespace My
open PySem L2
end My
namespace My
open PySem L2
end My
namespace My
open PySem L2
end My
set_option exponentiation.threshold 2000
namespace L2
open PySem
end L2
set_option exponentiation.threshold 5000
namespace My
open PySem L2
structure LB (R:Ring) (ps:List Rat):Prop where
 p:∀ p∈ps,RB 4100 p
 ld:∀ k t,RB 4100 (loadQ R.n (R.asks.take k) (ps.take k) t)
 st:∀ (k:Nat) (h1:k < R.asks.length) (h2:k < ps.length) (t:Nat),RB 4100 (sent R.n R.asks[k] ps[k] t)
 sm:∀ t,SumOk ((R.asks.zip ps).map fun x=>sent R.n x.1 x.2 t)
theorem LB.all {R:Ring} {ps:List Rat} (h:LB R ps) (hl:ps.length=R.asks.length) (t:Nat):RB 4100 (loadQ R.n R.asks ps t):=by
 have:=h.ld R.asks.length t
 rwa [List.take_of_length_le (Nat.le_refl _),List.take_of_length_le (by omega)] at this
theorem LB.of {R:Ring} (hR:R.Ok) (hT:∀ a∈R.asks,RB 60 a.size) {ps:List Rat} {c:Nat} (hb:∀ p∈ps,RB c p) (hc:c≤100):LB R ps:=by
 refine ⟨fun p hp=>(hb p hp).mono (by omega),fun k t=>?_,fun k h1 h2 t=>?_,fun t=>.inl ?_⟩
 ·
  exact (loadQ_RB (take_mem hT) (take_mem hb) (by rw [List.length_take]; have:=hR.few; omega) t).mono (by omega)
 ·
  exact (sent_RB (hT _ (List.getElem_mem h1)) (hb _ (List.getElem_mem h2)) t).mono (by omega)
 ·
  refine Nat.lt_of_le_of_lt (denP_le (b:=161) _ fun q hq=>?_) (Nat.pow_lt_pow_right (by decide) ?_)
  ·
   obtain ⟨x,hx,rfl⟩:=List.mem_map.mp hq
   obtain ⟨h1,h2⟩:=List.of_mem_zip (a:=x.1) (b:=x.2) hx
   exact (sent_RB (hT _ h1) (hb _ h2) t).mono (by omega)
  ·
   rw [List.length_map,List.length_zip]
   have:=hR.few
   omega
theorem w_abs {R:Ring} (hR:R.Ok) {q:Rat} (hq:RB 1750 q) {j:Nat} (h:j < R.asks.length):(wI R q j).natAbs < 2 ^ 4050:=by
 have h1:=(units_lt hR hq).2
 have h2:=num_lt_of (V:=2 ^ 300) (askAt_ok hR h).size (askAt_ok hR h).lt
 unfold wI unitI
 rw [Int.natAbs_mul,Int.natAbs_natCast]
 have h3:(askAt R j).size.den*(unitsN R q / (askAt R j).size.den)≤unitsN R q:=Nat.mul_div_le _ _
 have e:(2:Nat) ^ 4050=2 ^ 300*2 ^ 3750:=by rw [← Nat.pow_add]
 have h4:(askAt R j).size.num.natAbs*(unitsN R q / (askAt R j).size.den)≤2 ^ 300*unitsN R q:=by
  refine Nat.le_trans (Nat.mul_le_mul_right _ (Nat.le_of_lt h2)) ?_
  rw [Nat.mul_assoc]
  exact Nat.mul_le_mul_left _ h3
 rw [e]
 exact Nat.lt_of_le_of_lt h4 (Nat.mul_lt_mul_of_pos_left h1 (Nat.pow_pos (by decide)))
def zI (R:Ring) (q:Rat) (t j:Nat):Int:=if isOn R.n (askAt R j) t then pI R q j else wI R q j - pI R q j
theorem z_abs {R:Ring} (hR:R.Ok) {q:Rat} (hq:RB 1750 q) (hs:∀ c,IsCut R.n c→shownQ R c≤q) (t:Nat) {j:Nat} (h:j < R.asks.length):0≤zI R q t j∧zI R q t j < 2 ^ 4050:=by
 have hw:=w_abs hR hq h
 have w0:=w_nonneg hR q j h
 obtain ⟨p0,p1⟩:=parts_ok hR (w_nonneg hR q) (start_ok hR hq hs) h
 have e:((2 ^ 4050:Nat):Int)=2 ^ 4050:=by norm_cast
 have hw':wI R q j < 2 ^ 4050:=by rw [← e]; omega
 have p0':0≤pI R q j:=p0
 have p1':pI R q j≤wI R q j:=p1
 generalize (2:Int) ^ 4050=B at hw'
 unfold zI
 split <;> omega
end My
namespace My
open PySem L2
def ratB:D→Bool
 | .tup [.int i,.int j]=>decide (1≤j) && decide ((Int.gcd i j:Int)=1)
 | _=>false
theorem ratB_no {d:D} (h:∀ i j,d≠.tup [.int i,.int j]):ratB d=false:=by
 unfold ratB
 split
 ·
  rename_i i j
  exact absurd rfl (h i j)
 ·
  rfl
def signB (c:Nat):Bool:=strLe "a" ⟨#[c]⟩ && strLe ⟨#[c]⟩ "z"
def nameB:D→Bool
 | .str x=>(decide (1≤x.cps.size) && decide (x.cps.size≤8)) && x.cps.toList.all signB
 | _=>false
def AscD (d:D):Prop:=∀ x,d=.str x→x.cps.all (· < 128)=true∧x.cps.size < 100
theorem size_len (x:Str):x.length=x.cps.size:=by simp [Str.length]
end My
namespace My
open PySem L2
mutual
def widD:D→Nat
 | .tup xs=>max xs.length (widDs xs)
 | .lst xs=>max xs.length (widDs xs)
 | _=>0
def widDs:List D→Nat
 | []=>0
 | x::xs=>max (widD x) (widDs xs)
end
theorem widDs_mem {x:D}:∀ {xs:List D},x∈xs→widD x≤widDs xs
 | y::ys,h=>by
  simp only [widDs]
  rcases List.mem_cons.mp h with rfl | h
  ·
   omega
  ·
   have:=widDs_mem h; omega
theorem widDs_le {n:Nat}:∀ {xs:List D},(∀ x∈xs,widD x≤n)→widDs xs≤n
 | [],_=>Nat.zero_le _
 | y::ys,h=>by
  simp only [widDs]
  have:=h y List.mem_cons_self
  have:=widDs_le (xs:=ys) fun x hx=>h x (List.mem_cons_of_mem _ hx)
  omega
theorem size99 {n:Nat} (h:n≤99):n≤sizeLine:=Nat.le_trans h (by decide)
theorem widD_fr (q:Rat):widD (frD q)=2:=by simp [frD,widD,widDs]
theorem widD_ask (a:Ask):widD (askD a)=4:=by
 have:=widD_fr a.size
 simp [askD,widD,widDs,this]
theorem widD_frs {qs:List Rat} {n:Nat} (h:qs.length≤n) (h2:2≤n):widD (.lst (qs.map frD))≤n:=by
 simp only [widD,List.length_map]
 have:=widDs_le (n:=2) (xs:=qs.map frD) fun x hx=>by
  obtain ⟨q,_,rfl⟩:=List.mem_map.mp hx
  rw [widD_fr]
  exact Nat.le_refl _
 omega
theorem widD_asks {as:List Ask} {n:Nat} (h:as.length≤n) (h2:4≤n):widD (.lst (as.map askD))≤n:=by
 simp only [widD,List.length_map]
 have:=widDs_le (n:=4) (xs:=as.map askD) fun x hx=>by
  obtain ⟨q,_,rfl⟩:=List.mem_map.mp hx
  rw [widD_ask]
  exact Nat.le_refl _
 omega
theorem widD_ring {R:Ring} (h1:R.n≤99) (h2:R.asks.length≤99):widD (ringD R)≤99:=by
 have h1:=widD_frs (qs:=R.rooms) (n:=99) h1 (by decide)
 have h2:=widD_asks (as:=R.asks) (n:=99) h2 (by decide)
 simp only [ringD,widD,widDs,List.length_cons,List.length_nil] at h1 h2 ⊢
 omega
structure SmD (n:Nat) (d:D):Prop where
 dep:depD d < n
 wid:widD d≤99
theorem SmD.mono {n m:Nat} {d:D} (h:SmD n d) (hm:n≤m):SmD m d:=⟨Nat.lt_of_lt_of_le h.dep hm,h.wid⟩
theorem SmD.lst {n:Nat} {xs:List D} (h:SmD (n+1) (.lst xs)):xs.length≤sizeLine∧∀ x∈xs,SmD n x:=by
 obtain ⟨h1,h2⟩:=h
 simp only [depD,widD] at h1 h2
 exact ⟨size99 (by omega),fun x hx=>⟨by have:=depDs_mem hx; omega,by have:=widDs_mem hx; omega⟩⟩
theorem SmD.tup {n:Nat} {xs:List D} (h:SmD (n+1) (.tup xs)):xs.length≤sizeLine∧∀ x∈xs,SmD n x:=by
 obtain ⟨h1,h2⟩:=h
 simp only [depD,widD] at h1 h2
 exact ⟨size99 (by omega),fun x hx=>⟨by have:=depDs_mem hx; omega,by have:=widDs_mem hx; omega⟩⟩
theorem depD_fr (q:Rat):depD (frD q)=1:=by simp [frD,depD,depDs]
theorem depD_ask (a:Ask):depD (askD a)=2:=by
 have:=depD_fr a.size
 simp [askD,depD,depDs,this]
theorem depD_lst {xs:List D} {n:Nat} (h:∀ x∈xs,depD x≤n):depD (.lst xs)≤n+1:=by
 simp only [depD]
 have:=depDs_le h
 omega
theorem depD_tup {xs:List D} {n:Nat} (h:∀ x∈xs,depD x≤n):depD (.tup xs)≤n+1:=by
 simp only [depD]
 have:=depDs_le h
 omega
theorem depD_frs (qs:List Rat):depD (.lst (qs.map frD))≤2:=depD_lst fun x hx=>by
 obtain ⟨q,_,rfl⟩:=List.mem_map.mp hx
 rw [depD_fr]
 exact Nat.le_refl _
theorem depD_asks (as:List Ask):depD (.lst (as.map askD))≤3:=depD_lst fun x hx=>by
 obtain ⟨q,_,rfl⟩:=List.mem_map.mp hx
 rw [depD_ask]
 exact Nat.le_refl _
theorem depD_ring (R:Ring):depD (ringD R)≤4:=by
 have h1:=depD_frs R.rooms
 have h2:=depD_asks R.asks
 simp only [ringD,depD,depDs] at h1 h2 ⊢
 omega
theorem SmD.ring {R:Ring} (h1:R.n≤99) (h2:R.asks.length≤99):SmD 5 (ringD R):=⟨by have:=depD_ring R; omega,widD_ring h1 h2⟩
theorem SmD.frs {qs:List Rat} (h:qs.length≤99):SmD 3 (.lst (qs.map frD)):=⟨by have:=depD_frs qs; omega,widD_frs h (by decide)⟩
theorem SmD.asks {as:List Ask} (h:as.length≤99):SmD 4 (.lst (as.map askD)):=⟨by have:=depD_asks as; omega,widD_asks h (by decide)⟩
end My
set_option exponentiation.threshold 5000
namespace My
open PySem L2
structure Slide where
 k:Nat
 kw:Bool
 l:Nat
 lw:Bool
 am:Rat
def nsQ (R:Ring) (ps:List Rat) (k:Nat) (w:Bool):Rat:=if w then R.sz k - ps.getD k 0 else ps.getD k 0
def msQ (R:Ring) (ps:List Rat) (k:Nat) (kw:Bool) (l:Nat) (lw:Bool):Rat:=if nsQ R ps l lw < nsQ R ps k kw then nsQ R ps l lw else nsQ R ps k kw
def noTie (n:Nat) (a:Ask) (aw:Bool) (b:Ask) (bw:Bool):Bool:=!((wayL n a aw).any fun t=>decide (t∈wayL n b bw))
structure SlOk (R:Ring) (ps:List Rat):Prop where
 ok:R.Ok
 len:ps.length=R.asks.length
 lo:∀ k,k < ps.length→0≤ps.getD k 0∧ps.getD k 0≤R.sz k
 cd:∃ D:Nat,0 < D∧D < 2 ^ 1500∧(∀ a∈R.asks,a.size.den∣D)∧∀ p∈ps,p.den∣D
theorem sz_at {R:Ring} {k:Nat} (h:k < R.asks.length):R.sz k=R.asks[k].size:=by
 unfold Ring.sz
 rw [List.getD_eq_getElem?_getD,List.getElem?_map,List.getElem?_eq_getElem h]
 rfl
theorem getD_at {ps:List Rat} {k:Nat} (h:k < ps.length):ps.getD k 0=ps[k]:=by rw [List.getD_eq_getElem?_getD,List.getElem?_eq_getElem h]; rfl
theorem rlt {a b c:Rat} (h1:a≤b) (h2:b < c):a < c:=by
 rw [← Rat.not_le] at h2 ⊢
 exact fun z=>h2 (Rat.le_trans z h1)
theorem RB_of_cd {q:Rat} {D:Nat} (h0:0≤q) (h1:q < ((2 ^ 300:Nat):Rat)) (d0:0 < D) (d1:D < 2 ^ 1500) (hd:q.den∣D):RB 1800 q:=RB.of_val (v:=300) (d:=1500) h0 (Nat.lt_of_le_of_lt (Nat.le_of_dvd d0 hd) d1) h1
theorem SlOk.rb {R:Ring} {ps:List Rat} (h:SlOk R ps) {k:Nat} (hk:k < ps.length):RB 1800 (ps.getD k 0):=by
 obtain ⟨D,d0,d1,_,hd⟩:=h.cd
 have hk':k < R.asks.length:=by rw [← h.len]; exact hk
 obtain ⟨h1,h2⟩:=h.lo k hk
 refine RB_of_cd h1 (rlt h2 ?_) d0 d1 (hd _ (by rw [getD_at hk]; exact List.getElem_mem hk))
 rw [sz_at hk']
 exact (h.ok.ask _ (List.getElem_mem hk')).lt
theorem SlOk.ns {R:Ring} {ps:List Rat} (h:SlOk R ps) {k:Nat} (hk:k < ps.length) (w:Bool):0≤nsQ R ps k w∧nsQ R ps k w≤R.sz k:=by
 obtain ⟨h1,h2⟩:=h.lo k hk
 unfold nsQ
 cases w
 ·
  exact ⟨h1,h2⟩
 ·
  have h3:=(Rat.le_iff_sub_nonneg _ _).mp h2
  refine ⟨h3,?_⟩
  show R.sz k - ps.getD k 0≤R.sz k
  rw [Rat.le_iff_sub_nonneg]
  have:R.sz k - (R.sz k - ps.getD k 0)=ps.getD k 0:=by
   rw [Rat.sub_eq_add_neg,Rat.sub_eq_add_neg,Rat.neg_add,Rat.neg_neg,← Rat.add_assoc,Rat.add_neg_cancel,Rat.zero_add]
  rw [this]
  exact h1
theorem SlOk.ms {R:Ring} {ps:List Rat} (h:SlOk R ps) {k l:Nat} (hk:k < ps.length) (hl:l < ps.length) (kw lw:Bool):0≤msQ R ps k kw l lw∧msQ R ps k kw l lw≤nsQ R ps k kw∧msQ R ps k kw l lw≤nsQ R ps l lw∧(msQ R ps k kw l lw=nsQ R ps k kw∨msQ R ps k kw l lw=nsQ R ps l lw):=by
 have h1:=h.ns hk kw
 have h2:=h.ns hl lw
 unfold msQ
 split
 ·
  rename_i hlt
  exact ⟨h2.1,Rat.le_of_lt hlt,Rat.le_refl,.inr rfl⟩
 ·
  rename_i hlt
  exact ⟨h1.1,Rat.le_refl,Rat.not_lt.mp hlt,.inl rfl⟩
end My
set_option exponentiation.threshold 5000
namespace My
open PySem L2
end My
set_option exponentiation.threshold 5000
namespace My
open PySem L2
def slB (R:Ring) (ps:List Rat) (s:Slide):Bool:=!decide (s.k=s.l) && (noTie R.n (askAt R s.k) s.kw (askAt R s.l) s.lw && (decide (0 < s.am) && !decide (msQ R ps s.k s.kw s.l s.lw < s.am)))
end My
set_option exponentiation.threshold 5000
namespace My
open PySem L2
section
variable {α:Type} [DecidableEq α]
end
end My
set_option exponentiation.threshold 5000
namespace My
open PySem L2
end My
namespace My
open PySem L2
end My
namespace My
open PySem L2
end My
namespace My
open PySem L2
mutual
theorem same_up:∀ (n:Nat) (d:D),sameOk n d=true→sameOk (n+1) d=true
 | _,.non,_=>by simp [sameOk]
 | _,.bl _,_=>by simp [sameOk]
 | _,.int _,_=>by simp [sameOk]
 | _,.str _,_=>by simp [sameOk]
 | n+1,.tup xs,h=>by
  simp only [sameOk] at h ⊢
  exact sames_up n xs h
 | n+1,.lst xs,h=>by
  simp only [sameOk] at h ⊢
  exact sames_up n xs h
 | n+1,.dct m,h=>by simpa [sameOk] using h
 | 0,.tup _,h=>by simp [sameOk] at h
 | 0,.lst _,h=>by simp [sameOk] at h
 | 0,.dct _,h=>by simp [sameOk] at h
 | 0,.exc _ _ _,h=>by simp [sameOk] at h
 | _+1,.exc _ _ _,h=>by simp [sameOk] at h
 | 0,.fn _ _,h=>by simp [sameOk] at h
 | _+1,.fn _ _,h=>by simp [sameOk] at h
theorem sames_up:∀ (n:Nat) (ds:List D),sameOks n ds=true→sameOks (n+1) ds=true
 | _,[],_=>by simp [sameOks]
 | n,d::ds,h=>by
  simp only [sameOks,Bool.and_eq_true] at h ⊢
  exact ⟨same_up n d h.1,sames_up n ds h.2⟩
end
theorem same_le {n m:Nat} {d:D} (h:sameOk n d=true) (hm:n≤m):sameOk m d=true:=by
 obtain ⟨k,rfl⟩:=Nat.le.dest hm
 clear hm
 induction k with
 | zero=>exact h
 | succ k ih=>exact same_up _ d ih
theorem sames_of {n:Nat}:∀ {ds:List D},(∀ d∈ds,sameOk n d=true)→sameOks n ds=true
 | [],_=>by simp [sameOks]
 | d::ds,h=>by
  simp only [sameOks,Bool.and_eq_true]
  exact ⟨h d List.mem_cons_self,sames_of fun x hx=>h x (List.mem_cons_of_mem _ hx)⟩
structure Pt (n:Nat) (d:D):Prop where
 dep:depD d≤n
 wid:widD d≤99
 same:sameOk (20+n) d=true
theorem Pt.up {n m:Nat} {d:D} (h:Pt n d) (hm:n≤m):Pt m d:=⟨Nat.le_trans h.dep hm,h.wid,same_le h.same (by omega)⟩
theorem Pt.tup {n:Nat} {xs:List D} (h:∀ x∈xs,Pt n x) (hl:xs.length≤99):Pt (n+1) (.tup xs):=by
 refine ⟨depD_tup fun x hx=>(h x hx).dep,?_,?_⟩
 ·
  have:=widDs_le (xs:=xs) (n:=99) fun x hx=>(h x hx).wid
  simp only [widD]
  omega
 ·
  rw [show 20+(n+1)=(20+n)+1 by omega]
  simp only [sameOk]
  exact sames_of fun x hx=>(h x hx).same
theorem Pt.lst {n:Nat} {xs:List D} (h:∀ x∈xs,Pt n x) (hl:xs.length≤99):Pt (n+1) (.lst xs):=by
 refine ⟨depD_lst fun x hx=>(h x hx).dep,?_,?_⟩
 ·
  have:=widDs_le (xs:=xs) (n:=99) fun x hx=>(h x hx).wid
  simp only [widD]
  omega
 ·
  rw [show 20+(n+1)=(20+n)+1 by omega]
  simp only [sameOk]
  exact sames_of fun x hx=>(h x hx).same
theorem Pt.sm {n:Nat} {d:D} (h:Pt n d) (hn:n < 9):SmD 9 d:=⟨by have:=h.dep; omega,h.wid⟩
theorem Pt.int (i:Int):Pt 0 (.int i):=⟨by simp [depD],by simp [widD],by simp [sameOk]⟩
theorem Pt.bl (i:Bool):Pt 0 (.bl i):=⟨by simp [depD],by simp [widD],by simp [sameOk]⟩
theorem Pt.non:Pt 0 .non:=⟨by simp [depD],by simp [widD],by simp [sameOk]⟩
theorem Pt.str (z:Str):Pt 0 (.str z):=⟨by simp [depD],by simp [widD],by simp [sameOk]⟩
theorem Pt.fr (q:Rat):Pt 1 (frD q):=Pt.tup (fun x hx=>by
 rcases List.mem_cons.mp hx with rfl | hx
 ·
  exact Pt.int _
 ·
  rw [List.mem_singleton.mp hx]; exact Pt.int _) (by show 2≤99; decide)
end My
set_option exponentiation.threshold 5000
namespace My
open PySem L2
theorem ratB_fr' (q:Rat):ratB (frD q)=true:=by
 unfold frD ratB
 have h1:=q.den_pos
 have h2:=q.reduced
 unfold Nat.Coprime at h2
 rw [Bool.and_eq_true,decide_eq_true_eq,decide_eq_true_eq]
 refine ⟨by omega,?_⟩
 show ((Nat.gcd q.num.natAbs ((q.den:Int)).natAbs:Nat):Int)=1
 rw [Int.natAbs_natCast,h2]
 rfl
def numbB (d:D) (n:Int):Bool:=match d with
 | .int i=>decide (0≤i∧i < n)
 | _=>false
end My
namespace My
open PySem L2
def rmB:D→Bool
 | .tup [.int i,.int j]=>ratB (.tup [.int i,.int j]) && decide (0 < i)
 | _=>false
theorem rmB_no {d:D} (h:∀ i j,d≠.tup [.int i,.int j]):rmB d=false:=by
 unfold rmB
 split
 ·
  exact absurd rfl (h _ _)
 ·
  rfl
def NR (p:Str) (n:D):Xc:=⟨"NoRing",["part","number"],[.str p,n]⟩
def optN:Option Nat→D
 | none=>.non
 | some i=>.int i
def badRooms:D→Option (Option Nat)
 | .lst rs=>if 2≤rs.length∧rs.length≤12 then (rs.findIdx? fun r=>!rmB r).map some else some none
 | _=>some none
def posB:D→Bool
 | .tup (.int i::_)=>decide (0≤i)
 | _=>false
def askB (n:Int):D→Bool
 | .tup [a,b,c,s]=>nameB a && ratB s && (numbB b n && numbB c n) && (!(eqD b c) && posB s)
 | _=>false
def nmOf:D→Str
 | .tup (.str x::_)=>x
 | _=>""
def badAsk (n:Int):List D→List Str→Nat→Option Nat
 | [],_,_=>none
 | a::r,tk,i=>if askB n a=true∧nmOf a∉tk then badAsk n r (nmOf a::tk) (i+1) else some i
def badAsks (n:Int):D→Option (Option Nat)
 | .lst as=>(badAsk n as [] 0).map some
 | _=>some none
def badAsks20 (n:Int):D→Option (Option Nat)
 | .lst as=>if 20 < as.length then some none else badAsks n (.lst as)
 | d=>badAsks n d
def lenD:D→Int
 | .lst xs=>(xs.length:Int)
 | _=>0
def badRing:D→Option (Str×Option Nat)
 | .tup [r,a]=>match badRooms r with
  | some k=>some ("rooms",k)
  | none=>(badAsks20 (lenD r) a).map fun k=>("asks",k)
 | _=>some ("ring",none)
def AskA (d:D):Prop:=∀ xs,d=.tup xs→∀ a,xs[0]?=some a→AscD a
def AsksA (d:D):Prop:=∀ as,d=.lst as→as.length≤1000∧∀ a∈as,AskA a
theorem askB4 (n:Int) (a b c s:D):askB n (.tup [a,b,c,s])=(nameB a && ratB s && (numbB b n && numbB c n) && (!(eqD b c) && posB s)):=rfl
theorem numbB_is {d:D} {n:Int} (h:numbB d n=true):∃ i,d=.int i:=by
 cases d with
 | int i=>exact ⟨i,rfl⟩
 | _=>cases h
theorem askB_is {n:Int} {d:D} (h:askB n d=true):∃ x i j s,d=.tup [.str x,.int i,.int j,s]∧nameB (.str x)=true∧ratB s=true:=by
 unfold askB at h
 split at h
 ·
  rename_i a b c s
  simp only [Bool.and_eq_true] at h
  obtain ⟨⟨⟨h1,h2⟩,h3,h4⟩,_⟩:=h
  have e1:∃ x,a=.str x:=by
   cases a with
   | str x=>exact ⟨x,rfl⟩
   | _=>cases h1
  have e2:∃ i,b=.int i:=by
   cases b with
   | int i=>exact ⟨i,rfl⟩
   | _=>cases h3
  have e3:∃ i,c=.int i:=by
   cases c with
   | int i=>exact ⟨i,rfl⟩
   | _=>cases h4
  obtain ⟨x,rfl⟩:=e1
  obtain ⟨i,rfl⟩:=e2
  obtain ⟨j,rfl⟩:=e3
  exact ⟨x,i,j,s,rfl,h1,h2⟩
 ·
  cases h
theorem ratB_is {d:D} (h:ratB d=true):∃ i j,d=.tup [.int i,.int j]:=by
 unfold ratB at h
 split at h
 ·
  exact ⟨_,_,rfl⟩
 ·
  cases h
theorem strLe_letter {c:Nat} (h:LetterC c):signB c=true:=by
 have all:∀ c:Fin 123,97≤c.val→signB c.val=true:=by decide +kernel
 exact all ⟨c,by have:=h.2; omega⟩ h.1
theorem nameB_of {z:Str} (h:NmOk z):nameB (.str z)=true:=by
 have h1:=h.lo
 have h2:=h.hi
 rw [Array.length_toList] at h1 h2
 simp only [nameB,Bool.and_eq_true,decide_eq_true_eq,List.all_eq_true]
 exact ⟨⟨h1,h2⟩,fun c hc=>strLe_letter (h.let_ c hc)⟩
theorem ascD_of {z:Str} (h:NmOk z):AscD (.str z):=by
 intro x e
 cases e
 have h2:=h.hi
 rw [Array.length_toList] at h2
 refine ⟨?_,by omega⟩
 rw [← Array.all_toList,List.all_eq_true]
 intro c hc
 have:=(h.let_ c hc).2
 exact decide_eq_true (by omega)
theorem rmB_fr {q:Rat} (h:0 < q):rmB (frD q)=true:=by
 show (ratB (frD q) && decide (0 < q.num))=true
 rw [ratB_fr',Bool.true_and]
 have h0:=Rat.num_nonneg.mpr (Rat.le_of_lt h)
 have h1:q.num≠0:=fun z=>by
  have:q=0:=Rat.num_eq_zero.mp z
  rw [this] at h
  exact absurd h (by decide)
 exact decide_eq_true (by omega)
theorem askB_of {n:Nat} {a:Ask} (h:AskOk n a) (hz:NmOk a.nm):askB (n:Int) (askD a)=true:=by
 have h1:=h.one
 have h2:=h.other
 have h3:=h.ne
 have e:eqD (.int a.one) (.int a.other)=false:=by
  show decide ((a.one:Int)=(a.other:Int))=false
  exact decide_eq_false (by omega)
 show (nameB (.str a.nm) && ratB (frD a.size) && (numbB (.int a.one) n && numbB (.int a.other) n) && (!(eqD (.int a.one) (.int a.other)) && decide (0≤a.size.num)))=true
 rw [nameB_of hz,ratB_fr',e,show numbB (.int a.one) n=true from decide_eq_true (by omega),show numbB (.int a.other) n=true from decide_eq_true (by omega),decide_eq_true (Rat.num_nonneg.mpr h.size)]
 rfl
theorem badAsk_good {n:Nat}:∀ (as:List Ask) (tk:List Str) (i:Nat),(∀ a∈as,AskOk n a∧NmOk a.nm)→(as.map (·.nm)).Nodup→(∀ a∈as,a.nm∉tk)→badAsk (n:Int) (as.map askD) tk i=none
 | [],_,_,_,_,_=>rfl
 | a::as,tk,i,h,nd,hn=>by
  rw [List.map_cons,List.nodup_cons] at nd
  rw [List.map_cons]
  unfold badAsk
  have e:nmOf (askD a)=a.nm:=rfl
  rw [if_pos ⟨askB_of (h a List.mem_cons_self).1 (h a List.mem_cons_self).2,by rw [e]; exact hn a List.mem_cons_self⟩,e]
  refine badAsk_good as _ _ (fun b hb=>h b (List.mem_cons_of_mem _ hb)) nd.2 fun b hb z=>?_
  rcases List.mem_cons.mp z with z | z
  ·
   exact nd.1 (by rw [← z]; exact List.mem_map_of_mem (f:=(·.nm)) hb)
  ·
   exact hn b (List.mem_cons_of_mem _ hb) z
theorem badRooms_good {qs:List Rat} (h:∀ q∈qs,0 < q) (h1:2≤qs.length) (h2:qs.length≤12):badRooms (.lst (qs.map frD))=none:=by
 unfold badRooms
 dsimp only
 rw [if_pos (by rw [List.length_map]; exact ⟨h1,h2⟩)]
 have e:(qs.map frD).findIdx? (fun r=>!rmB r)=none:=by
  rw [List.findIdx?_eq_none_iff]
  intro x hx
  obtain ⟨q,hq,rfl⟩:=List.mem_map.mp hx
  rw [rmB_fr (h q hq)]
  rfl
 rw [e]
 rfl
theorem badRing_good {R:Ring} (h:R.Ok) (hz:∀ a∈R.asks,NmOk a.nm) (nd:(R.asks.map (·.nm)).Nodup):badRing (ringD R)=none:=by
 unfold ringD badRing
 dsimp only
 rw [badRooms_good (fun q hq=>(h.room q hq).1) h.lo h.hi]
 have hf:=h.few
 have e:lenD (.lst (R.rooms.map frD))=(R.n:Int):=by simp [lenD,Ring.n]
 dsimp only
 simp only [badAsks20,e]
 rw [if_neg (by rw [List.length_map]; omega)]
 simp only [badAsks]
 rw [badAsk_good R.asks [] 0 (fun a ha=>⟨h.ask a ha,hz a ha⟩) nd fun a _ z=>by simp at z]
 rfl
theorem askA_of {R:Ring} (h:R.Ok) (hz:∀ a∈R.asks,NmOk a.nm):AsksA (.lst (R.asks.map askD)):=by
 intro as e
 cases e
 have hf:=h.few
 refine ⟨by rw [List.length_map]; omega,fun a ha xs e b hb=>?_⟩
 obtain ⟨a,hm,rfl⟩:=List.mem_map.mp ha
 cases e
 simp only [List.getElem?_cons_zero,Option.some.injEq] at hb
 subst hb
 exact ascD_of (hz a hm)
def enumF (i:Nat) (xs:List D):List D:=(xs.zipIdx i).map fun p=>.tup [.int (p.2:Int),p.1]
theorem enumF_zero (xs:List D):enumD xs=enumF 0 xs:=rfl
theorem enumF_cons (i:Nat) (x:D) (xs:List D):enumF i (x::xs)=.tup [.int (i:Int),x]::enumF (i+1) xs:=rfl
theorem wForL_cons {g:Tg} {b:W Fl} {x:D} {xs:List D} {ρ:Ev} {post:Fl→Ev→Prop}:wForL g b (x::xs) ρ post=g x ρ fun ρ1=>b ρ1 fun f ρ2=>match f with
  | .nx=>wForL g b xs ρ2 post
  | .ct=>wForL g b xs ρ2 post
  | .bk=>post .nx ρ2
  | .rt r=>post (.rt r) ρ2:=rfl
theorem comp_asks {h:Ask→D} {te:W L} {k:List D→Ev→Prop}:∀ (as:List Ask) (acc:List D) (l0 l1 l2 l3:L),(∀ a∈as,∀ Q:Ev→D→Prop,Q [.d (.str a.nm),.d (.int a.one),.d (.int a.other),.d (frD a.size)] (h a)→te [.d (.str a.nm),.d (.int a.one),.d (.int a.other),.d (frD a.size)] fun r ρ3=>toD r fun y=>Q ρ3 y) →
  (∀ l0 l1 l2 l3,k (acc++as.map h) [l0,l1,l2,l3])→compL (tgTup [0,1,2,3]) wTrue te (as.map askD) [l0,l1,l2,l3] acc k
 | [],acc,l0,l1,l2,l3,_,fin=>by
  have:=fin l0 l1 l2 l3
  rw [List.map_nil,List.append_nil] at this
  exact this
 | a::as,acc,l0,l1,l2,l3,step,fin=>by
  rw [List.map_cons]
  show wTrue [.d (.str a.nm),.d (.int a.one),.d (.int a.other),.d (frD a.size)] fun b ρ2=>if b=true then te ρ2 fun r ρ3=>toD r fun y=>compL (tgTup [0,1,2,3]) wTrue te (as.map askD) ρ3 (acc++[y]) k else compL (tgTup [0,1,2,3]) wTrue te (as.map askD) ρ2 acc k
  simp only [wTrue,if_true]
  refine step a List.mem_cons_self _ (comp_asks as (acc++[h a]) _ _ _ _ (fun b hb=>step b (List.mem_cons_of_mem _ hb)) fun m0 m1 m2 m3=>?_)
  rw [List.append_assoc]
  exact fin m0 m1 m2 m3
def dkv (zs:List Str):List (Key×D):=zs.map fun x=>(.inr x,.bl true)
theorem valD_dkv {x:Str}:∀ zs:List Str,(valD (dkv zs) (.inr x)).isSome=decide (x∈zs)
 | []=>by simp [dkv,valD]
 | z::zs=>by
  have ih:=valD_dkv (x:=x) zs
  unfold dkv at ih ⊢
  rw [List.map_cons]
  unfold valD
  by_cases e:z=x
  ·
   subst e; simp
  ·
   have e1:¬ ((Sum.inr z:Key)=.inr x):=fun q=>e (Sum.inr.inj q)
   simp only [e1,if_false,List.mem_cons,show (x=z)=False from by simp [Ne.symm e],false_or]
   exact ih
theorem putD_dkv {x:Str} {zs:List Str} (h:x∉zs):putD (dkv zs) (.inr x) (.bl true)=dkv (zs++[x]):=by
 unfold putD
 have e:((dkv zs).any fun p=>decide (p.1=.inr x))=false:=by
  rw [List.any_eq_false]
  intro p hp
  obtain ⟨z,hz,rfl⟩:=List.mem_map.mp hp
  simp only [decide_eq_true_eq]
  intro q
  exact h (by rw [← Sum.inr.inj q]; exact hz)
 rw [e]
 simp [dkv]
theorem dkv_len (zs:List Str):(dkv zs).length=zs.length:=by simp [dkv]
theorem badAsk_tk {n:Int}:∀ (as:List D) (t1 t2:List Str) (i:Nat),(∀ x,x∈t1↔x∈t2)→badAsk n as t1 i=badAsk n as t2 i
 | [],_,_,_,_=>rfl
 | a::as,t1,t2,i,h=>by
  have e:=badAsk_tk (n:=n) as (nmOf a::t1) (nmOf a::t2) (i+1) fun x=>by rw [List.mem_cons,List.mem_cons,h]
  simp only [badAsk,e,h]
end My
set_option exponentiation.threshold 1000
namespace Hd
open PySem PySem.W PyProof.Rows
abbrev pr:Program:=PySem.Challenge.pw_ringloads_k05_rings_let_by
def top (i:Nat):Stmt:=pr.main.body.getD i (.Pass ⟨0,0,0,0⟩)
def inCls (st:Stmt) (j:Nat):Stmt:=match st with
 | .ClassDef _ _ _ b ..=>b.getD j (.Pass ⟨0,0,0,0⟩)
 | _=>.Pass ⟨0,0,0,0⟩
def dName (s:Stmt):Str:=match s with
 | .FunctionDef n ..=>n
 | _=>""
def dArgs (s:Stmt):Arguments:=match s with
 | .FunctionDef _ a _ _ _ _ _ _ _ _=>a
 | _=>{ posonlyargs:=[],args:=[],vararg:=none,kwonlyargs:=[],kw_defaults:=[],kwarg:=none,defaults:=[] }
def dBody (s:Stmt):List Stmt:=match s with
 | .FunctionDef _ _ b _ _ _ _ _ _ _=>b
 | _=>[]
def dScope (s:Stmt):Scope:=match s with
 | .FunctionDef _ _ _ _ _ _ sc _ _ _=>sc
 | _=>{ kind:=.function,names:=[],isGenerator:=false,isCoroutine:=false }
def dPos (s:Stmt):Pos:=match s with
 | .FunctionDef _ _ _ _ _ _ _ _ _ p=>p
 | _=>⟨0,0,0,0⟩
def fdOf (st:Stmt) (q:Str) (g:Addr) (md cd:Value):FuncData:={ name:=dName st,qualname:=q,params:=dArgs st,body:=.stmts (dBody st),scope:=dScope st,globals:=g,closure:=[],defaults:=.none,kwdefaults:=.none,doc:=.none,pyModule:=md,annotations:=none,code:=cd,closureTuple:=.none,builtins:=0 }
noncomputable def kh (P:Params) (x:Str):Int:=PySem.PyData.keyHash P x
def tupO (vs:List Value):Obj:=⟨.type "tuple",none,.seq vs.toArray 0,#[]⟩
def fldO (vs:List Value):Obj:=⟨.none,none,.fields vs.toArray,#[]⟩
def numb:Nat→List Str→List Value
 | _,[]=>[]
 | t,x::r=>.str x t::numb (t+1) r
def codeO (st:Stmt) (a t:Nat) (v1 v2:Value) (tm u:Nat):Obj:=⟨.type "code",none,.fields #[.str (dName st) t,.str (dName st) (t+1),.str "/claim/cut.py" (t+2),.int (dPos st).line 0,.int (dArgs st).args.length 0,.int 0 0,.int 0 0,.int 3 0,.ref a,.bool true,.int 181 0,.ref (a+1),.none,v1,v2,.ref tm,.int u 0,.int (dPos st).line 0,.str "/claim/cut.py" (u+1)],#[]⟩
def fnO (st:Stmt) (md:Value) (cd:Nat):Obj:=⟨.type "function",none,.func (fdOf st (dName st) 3 md (.ref cd)),#[]⟩
def tmO (st:Stmt):Obj:=⟨.none,none,.func (fdOf st (dName st) 0 .none .none),#[]⟩
def fdef7 (st:Stmt) (a t:Nat) (vs:List Str) (md:Value):List Obj:=[tupO [],fldO [],tupO (numb (t+3) vs),tupO [],tmO st,codeO st a t (.ref (a+2)) (.ref (a+3)) (a+4) (t+3+vs.length),fnO st md (a+5)]
def fdef5 (st:Stmt) (a t:Nat) (md:Value):List Obj:=[tupO [],fldO [],tmO st,codeO st a t .none .none (a+2) (t+3),fnO st md (a+3)]
noncomputable def mainD (P:Params) (nm:Value) (es:List DictEntry) (n:Nat):Obj:=⟨.type "dict",none,.dict (([⟨kh P "__name__",.str "__name__" 165,nm⟩,⟨kh P "__doc__",.str "__doc__" 166,.none⟩,⟨kh P "__package__",.str "__package__" 167,.none⟩,⟨kh P "__loader__",.str "__loader__" 168,.builtin "__main__.__loader__#opaque"⟩,⟨kh P "__spec__",.str "__spec__" 169,.none⟩,⟨kh P "__annotations__",.str "__annotations__" 170,.ref 6⟩,⟨kh P "__builtins__",.str "__builtins__" 171,.ref 4⟩,⟨kh P "__file__",.str "__file__" 173,.str "/claim/cut.py" 172⟩,⟨kh P "__cached__",.str "__cached__" 174,.none⟩]:List DictEntry)++es).toArray n,#[]⟩
def modO:Obj:=⟨.type "code",none,.fields #[.str "<module>" 182,.str "<module>" 183,.str "/claim/cut.py" 184,.int 1 0,.int 0 0,.int 0 0,.int 0 0,.int 0 0,.ref 11,.bool false,.int 181 0,.ref 12,.none,.none,.none,.none,.int 185 0,.int 1 0,.str "/claim/cut.py" 186],#[]⟩
def frmO:Obj:=⟨.type "frame",none,.plain,#[some (.ref 13),some (.ref 3),some (.ref 3),none,some (.str "__main__" 164),none,some (.ref 0)]⟩
noncomputable def bootL (P:Params):List Obj:=[boot_o_0 P,boot_o_1 P,boot_o_2 P,boot_o_3 P,boot_o_4 P,boot_o_5 P,boot_o_6 P,boot_o_7 P,boot_o_8 P,boot_o_9 P,boot_o_10 P,tupO [],fldO [],modO,frmO]
def life0:Life:=⟨[],[],[],0,[],[],false,#[],[],0,false,false,false,0,[2000,10,10],false,0,true,[],[],0,false⟩
noncomputable def lookO (l:List (Nat×Obj)) (b:Nat):Option Obj:=@List.rec (Nat×Obj) (fun _=>Option Obj) none (fun x _ ih=>bif Nat.beq x.1 b then some x.2 else ih) l
noncomputable def obBase (P:Params) (ob:Params→Nat→Obj) (b:Nat):Obj:=bif b.blt 15 then (bootL P).getD b default else ob P b
noncomputable def memN (l:List Nat) (b:Nat):Bool:=@List.rec Nat (fun _=>Bool) false (fun x _ ih=>@Bool.rec (fun _=>Bool) ih true (Nat.beq x b)) l
noncomputable def obAt (ks:List Nat) (P:Params) (ov:List (Nat×Obj)) (ob:Params→Nat→Obj) (b j:Nat):Obj:=@Bool.rec (fun _=>Obj) (obBase P ob b) ((lookO ov b).getD default) (memN ks b)
noncomputable def L0 (n:Nat) (f:Nat→Obj) (a b j:Nat):BT:=.nil
noncomputable def L1 (n:Nat) (f:Nat→Obj) (a b j:Nat):BT:=@Bool.rec (fun _=>BT) .nil (.node (f b) (L0 n f (2*a) (a+b) j) (L0 n f (2*a) (2*a+b) j)) (b.blt n)
noncomputable def L2 (n:Nat) (f:Nat→Obj) (a b j:Nat):BT:=@Bool.rec (fun _=>BT) .nil (.node (f b) (L1 n f (2*a) (a+b) j) (L1 n f (2*a) (2*a+b) j)) (b.blt n)
noncomputable def L3 (n:Nat) (f:Nat→Obj) (a b j:Nat):BT:=@Bool.rec (fun _=>BT) .nil (.node (f b) (L2 n f (2*a) (a+b) j) (L2 n f (2*a) (2*a+b) j)) (b.blt n)
noncomputable def L4 (n:Nat) (f:Nat→Obj) (a b j:Nat):BT:=@Bool.rec (fun _=>BT) .nil (.node (f b) (L3 n f (2*a) (a+b) j) (L3 n f (2*a) (2*a+b) j)) (b.blt n)
noncomputable def L5 (n:Nat) (f:Nat→Obj) (a b j:Nat):BT:=@Bool.rec (fun _=>BT) .nil (.node (f b) (L4 n f (2*a) (a+b) j) (L4 n f (2*a) (2*a+b) j)) (b.blt n)
noncomputable def L6 (n:Nat) (f:Nat→Obj) (a b j:Nat):BT:=@Bool.rec (fun _=>BT) .nil (.node (f b) (L5 n f (2*a) (a+b) j) (L5 n f (2*a) (2*a+b) j)) (b.blt n)
noncomputable def L7 (n:Nat) (f:Nat→Obj) (a b j:Nat):BT:=@Bool.rec (fun _=>BT) .nil (.node (f b) (L6 n f (2*a) (a+b) j) (L6 n f (2*a) (2*a+b) j)) (b.blt n)
noncomputable def L8 (n:Nat) (f:Nat→Obj) (a b j:Nat):BT:=@Bool.rec (fun _=>BT) .nil (.node (f b) (L7 n f (2*a) (a+b) j) (L7 n f (2*a) (2*a+b) j)) (b.blt n)
noncomputable def L9 (n:Nat) (f:Nat→Obj) (a b j:Nat):BT:=@Bool.rec (fun _=>BT) .nil (.node (f b) (L8 n f (2*a) (a+b) j) (L8 n f (2*a) (2*a+b) j)) (b.blt n)
noncomputable def L10 (n:Nat) (f:Nat→Obj) (a b j:Nat):BT:=@Bool.rec (fun _=>BT) .nil (.node (f b) (L9 n f (2*a) (a+b) j) (L9 n f (2*a) (2*a+b) j)) (b.blt n)
noncomputable def L11 (n:Nat) (f:Nat→Obj) (a b j:Nat):BT:=@Bool.rec (fun _=>BT) .nil (.node (f b) (L10 n f (2*a) (a+b) j) (L10 n f (2*a) (2*a+b) j)) (b.blt n)
noncomputable def L12 (n:Nat) (f:Nat→Obj) (a b j:Nat):BT:=@Bool.rec (fun _=>BT) .nil (.node (f b) (L11 n f (2*a) (a+b) j) (L11 n f (2*a) (2*a+b) j)) (b.blt n)
theorem seg_by {p:Program} {w:World} {m:Nat} {ann:Option Value} {b n:Nat} {s:SharedT} {t:Thread} {r:Option (Flow×SharedT×Code×Pos)} (h:Fast.tw10110043849684766642 Fast.tw14364793385576792824 p w m ann b n s t=r):segRunT treeTable p w m ann b n s t=r:=by
 rw [Fast.te10110043849684766642,Fast.te14364793385576792824]; exact h
theorem top_by {p:Program} {w:World} {m:Nat} {ann:Option Value} {n:Nat} {s:Shared} {t:Thread} {r:Option Shared} (h:Fast.tw14082659384304107361 Fast.tw14364793385576792824 p w m ann n s t=r):topRun treeTable p w m ann n s t=r:=by
 rw [Fast.te14082659384304107361,Fast.te14364793385576792824]; exact h
theorem den_tw:denote treeTable=Fast.tw11892475500146522536 Fast.tw14364793385576792824:=by rw [← Fast.te11892475500146522536,← Fast.te14364793385576792824]
theorem go_by {p:Program} {w:World} {m:Nat} {ann:Option Value} {n:Nat} {s:Shared} {t:Thread} {r:Option (Shared×Thread)} (h:Fast.tw15667345088766844465 Fast.tw14364793385576792824 p w m ann n s t=r):topGo treeTable p w m ann n s t=r:=by
 rw [Fast.te15667345088766844465,Fast.te14364793385576792824]; exact h
theorem rest_eq {b b':List Stmt} (e:b=b') {tb:String→Option Builtin} {p:Program} {w:World} {m:Nat} {ann:Option Value} {n:Nat} {s:Shared} {env:Env} {c:Code} {ps:Pos} {B:List Frame} {r:Option Shared} (h:topRun tb p w m ann n s (restOf b' env c ps B)=r):topRun tb p w m ann n s (restOf b env c ps B)=r:=by rw [e]; exact h
noncomputable def f1 (P:Params):List Obj:=[(Obj.mk (.type "tuple") none (.seq #[(.type "ValueError")] 0) #[]),
 (Obj.mk (.type "builtin_function_or_method") none (.fields #[(.builtin "type.__prepare__"),(.type "type")]) #[]),
 (Obj.mk (.type "dict") none (.dict #[(DictEntry.mk (kh P "__module__") (.str "__module__" 196) (.str "ringloads.errors" 187)),(DictEntry.mk (kh P "__qualname__") (.str "__qualname__" 198) (.str "LoadError" 197)),(DictEntry.mk (kh P "__firstlineno__") (.str "__firstlineno__" 200) (.int 2 199)),(DictEntry.mk (kh P "__init__") (.str "__init__" 208) (.ref 28)),(DictEntry.mk (kh P "__static_attributes__") (.str "__static_attributes__" 209) (.ref 29))] 5) #[]),
 (Obj.mk (.type "tuple") none (.seq #[] 0) #[]),
 (Obj.mk .none none (.fields #[(.int 4 0),(.int 4 0),(.ref 27)]) #[]),
 (Obj.mk (.type "code") none (.fields #[(.str "LoadError" 191),(.str "LoadError" 192),(.str "/claim/cut.py" 193),(.int 2 0),(.int 0 0),(.int 0 0),(.int 0 0),(.int 0 0),(.ref 18),(.bool false),(.int 181 0),(.ref 19),.none,.none,.none,.none,(.int 194 0),(.int 2 0),(.str "/claim/cut.py" 195)]) #[]),
 (Obj.mk (.type "frame") none .plain #[(some (.ref 20)),(some (.ref 3)),(some (.ref 17)),none,(some (.str "ringloads.errors" 187)),none,(some (.ref 0))]),
 (Obj.mk (.type "tuple") none (.seq #[] 0) #[]),
 (Obj.mk .none none (.fields #[]) #[]),
 (Obj.mk (.type "tuple") none (.seq #[(.str "self" 204),(.str "text" 205)] 0) #[]),
 (Obj.mk (.type "tuple") none (.seq #[] 0) #[]),
 (Obj.mk .none none (.func (fdOf (inCls (top 1) 0) "LoadError.__init__" 0 .none .none)) #[]),
 (Obj.mk (.type "code") none (.fields #[(.str "__init__" 201),(.str "LoadError.__init__" 202),(.str "/claim/cut.py" 203),(.int 4 0),(.int 2 0),(.int 0 0),(.int 0 0),(.int 3 0),(.ref 22),(.bool true),(.int 181 0),(.ref 23),.none,(.ref 24),(.ref 25),(.ref 26),(.int 206 0),(.int 4 0),(.str "/claim/cut.py" 207)]) #[]),
 (Obj.mk (.type "function") none (.func (fdOf (inCls (top 1) 0) "LoadError.__init__" 3 (.str "ringloads.errors" 187) (.ref 27))) #[]),
 (Obj.mk (.type "tuple") none (.seq #[] 0) #[]),
 (Obj.mk (.type "dict") none (.dict #[(DictEntry.mk (kh P "__module__") (.str "__module__" 196) (.str "ringloads.errors" 187)),(DictEntry.mk (kh P "__firstlineno__") (.str "__firstlineno__" 200) (.int 2 199)),(DictEntry.mk (kh P "__init__") (.str "__init__" 208) (.ref 28)),(DictEntry.mk (kh P "__static_attributes__") (.str "__static_attributes__" 209) (.ref 29)),(DictEntry.mk (kh P "__weakref__") (.str "__weakref__" 211) (.ref 32)),(DictEntry.mk (kh P "__doc__") (.str "__doc__" 212) .none)] 3) #[]),
 (Obj.mk (.type "type") none (.cls (PySem.ClassData.mk "LoadError" [(.type "ValueError")] [(.ref 31),(.type "ValueError"),(.type "Exception"),(.type "BaseException"),(.type "object")] 30 "LoadError" true [] [(.ref 51)] false none false)) #[(some (.ref 15)),none,(some (.str "LoadError" 189)),(some (.str "LoadError" 197)),(some (.builtin "ValueError.__new__")),(some (.bool true))]),
 (Obj.mk (.type "getset_descriptor") none (.fields #[(.str "__weakref__" 210),(.ref 31),(.builtin "ExceptionGroup.__weakref__"),.none]) #[]),
 (Obj.mk (.type "super") none (.fields #[(.ref 31),(.ref 31),(.ref 31)]) #[]),
 (Obj.mk (.type "builtin_function_or_method") none (.fields #[(.builtin "object.__init_subclass__"),(.ref 31)]) #[])]
noncomputable def f2 (P:Params):List Obj:=[(Obj.mk (.type "tuple") none (.seq #[(.ref 31)] 0) #[]),
 (Obj.mk (.type "builtin_function_or_method") none (.fields #[(.builtin "type.__prepare__"),(.type "type")]) #[]),
 (Obj.mk (.type "dict") none (.dict #[(DictEntry.mk (kh P "__module__") (.str "__module__" 222) (.str "ringloads.errors" 187)),(DictEntry.mk (kh P "__qualname__") (.str "__qualname__" 224) (.str "NoRing" 223)),(DictEntry.mk (kh P "__firstlineno__") (.str "__firstlineno__" 226) (.int 6 225)),(DictEntry.mk (kh P "__init__") (.str "__init__" 235) (.ref 48)),(DictEntry.mk (kh P "__static_attributes__") (.str "__static_attributes__" 238) (.ref 49))] 5) #[]),
 (Obj.mk (.type "tuple") none (.seq #[] 0) #[]),
 (Obj.mk .none none (.fields #[(.int 8 0),(.int 4 0),(.ref 47)]) #[]),
 (Obj.mk (.type "code") none (.fields #[(.str "NoRing" 217),(.str "NoRing" 218),(.str "/claim/cut.py" 219),(.int 6 0),(.int 0 0),(.int 0 0),(.int 0 0),(.int 0 0),(.ref 38),(.bool false),(.int 181 0),(.ref 39),.none,.none,.none,.none,(.int 220 0),(.int 6 0),(.str "/claim/cut.py" 221)]) #[]),
 (Obj.mk (.type "frame") none .plain #[(some (.ref 40)),(some (.ref 3)),(some (.ref 37)),none,(some (.str "ringloads.errors" 187)),none,(some (.ref 0))]),
 (Obj.mk (.type "tuple") none (.seq #[] 0) #[]),
 (Obj.mk .none none (.fields #[]) #[]),
 (Obj.mk (.type "tuple") none (.seq #[(.str "self" 230),(.str "part" 231),(.str "number" 232)] 0) #[]),
 (Obj.mk (.type "tuple") none (.seq #[] 0) #[]),
 (Obj.mk .none none (.func (fdOf (inCls (top 2) 0) "NoRing.__init__" 0 .none .none)) #[]),
 (Obj.mk (.type "code") none (.fields #[(.str "__init__" 227),(.str "NoRing.__init__" 228),(.str "/claim/cut.py" 229),(.int 8 0),(.int 3 0),(.int 0 0),(.int 0 0),(.int 3 0),(.ref 42),(.bool true),(.int 181 0),(.ref 43),.none,(.ref 44),(.ref 45),(.ref 46),(.int 233 0),(.int 8 0),(.str "/claim/cut.py" 234)]) #[]),
 (Obj.mk (.type "function") none (.func (fdOf (inCls (top 2) 0) "NoRing.__init__" 3 (.str "ringloads.errors" 187) (.ref 47))) #[]),
 (Obj.mk (.type "tuple") none (.seq #[(.str "number" 236),(.str "part" 237)] 0) #[]),
 (Obj.mk (.type "dict") none (.dict #[(DictEntry.mk (kh P "__module__") (.str "__module__" 222) (.str "ringloads.errors" 187)),(DictEntry.mk (kh P "__firstlineno__") (.str "__firstlineno__" 226) (.int 6 225)),(DictEntry.mk (kh P "__init__") (.str "__init__" 235) (.ref 48)),(DictEntry.mk (kh P "__static_attributes__") (.str "__static_attributes__" 238) (.ref 49)),(DictEntry.mk (kh P "__doc__") (.str "__doc__" 239) .none)] 2) #[]),
 (Obj.mk (.type "type") none (.cls (PySem.ClassData.mk "NoRing" [(.ref 31)] [(.ref 51),(.ref 31),(.type "ValueError"),(.type "Exception"),(.type "BaseException"),(.type "object")] 50 "NoRing" true [] [] false none false)) #[(some (.ref 35)),none,(some (.str "NoRing" 215)),(some (.str "NoRing" 223)),(some (.builtin "ValueError.__new__")),(some (.bool true))]),
 (Obj.mk (.type "super") none (.fields #[(.ref 51),(.ref 51),(.ref 51)]) #[]),
 (Obj.mk (.type "builtin_function_or_method") none (.fields #[(.builtin "object.__init_subclass__"),(.ref 51)]) #[])]
noncomputable def f4 (P:Params):List Obj:=fdef7 (top 4) 54 244 ["one","other","rest"] (.str "ringloads.divisors" 242)
noncomputable def f7 (P:Params):List Obj:=fdef7 (top 7) 61 257 ["thing"] (.str "ringloads.names" 253)
noncomputable def f8 (P:Params):List Obj:=fdef7 (top 8) 68 264 ["thing","many"] (.str "ringloads.names" 253)
noncomputable def f9 (P:Params):List Obj:=fdef7 (top 9) 75 272 ["thing"] (.str "ringloads.names" 253)
noncomputable def f10 (P:Params):List Obj:=fdef7 (top 10) 82 279 ["thing"] (.str "ringloads.names" 253)
noncomputable def f11 (P:Params):List Obj:=fdef5 (top 11) 89 286 (.str "ringloads.names" 253)
noncomputable def f16 (P:Params):List Obj:=fdef7 (top 16) 94 300 ["thing"] (.str "ringloads.rings" 292)
noncomputable def f17 (P:Params):List Obj:=fdef7 (top 17) 101 307 ["rooms","number","room"] (.str "ringloads.rings" 292)
noncomputable def f18 (P:Params):List Obj:=[(Obj.mk (.type "tuple") none (.seq #[] 0) #[]),
 (Obj.mk .none none (.fields #[]) #[]),
 (Obj.mk (.type "tuple") none (.seq #[(.str "asks" 319),(.str "places" 320)] 0) #[]),
 (Obj.mk (.type "tuple") none (.seq #[(.str "places" 321)] 0) #[]),
 (Obj.mk .none none (.func (fdOf (top 18) "look_at_asks" 0 .none .none)) #[]),
 (Obj.mk (.type "code") none (.fields #[(.str "look_at_asks" 316),(.str "look_at_asks" 317),(.str "/claim/cut.py" 318),(.int 48 0),(.int 2 0),(.int 0 0),(.int 0 0),(.int 3 0),(.ref 108),(.bool true),(.int 181 0),(.ref 109),.none,(.ref 110),(.ref 111),(.ref 112),(.int 322 0),(.int 48 0),(.str "/claim/cut.py" 323)]) #[]),
 (Obj.mk (.type "function") none (.func (fdOf (top 18) "look_at_asks" 3 (.str "ringloads.rings" 292) (.ref 113))) #[])]
noncomputable def f19 (P:Params):List Obj:=fdef7 (top 19) 115 325 ["asks","is_end","taken","number","ask"] (.str "ringloads.rings" 292)
noncomputable def f20 (P:Params):List Obj:=fdef7 (top 20) 122 336 ["thing","is_end"] (.str "ringloads.rings" 292)
noncomputable def f22 (P:Params):List Obj:=fdef7 (top 22) 129 346 ["_law_script","_law_k","_law_cell"] (.str "law_ringloads_k05_rings_let_by" 344)
noncomputable def f23 (P:Params):List Obj:=fdef7 (top 23) 136 355 ["_law_state","_law_many","_law_digit","_law_drawn","_law_turn"] (.str "law_ringloads_k05_rings_let_by" 344)
noncomputable def f24 (P:Params):List Obj:=fdef7 (top 24) 143 366 ["_law_top","_law_bottom","_law_one","_law_share"] (.str "law_ringloads_k05_rings_let_by" 344)
noncomputable def f25 (P:Params):List Obj:=fdef7 (top 25) 150 376 ["_law_state","_law_least","_law_kind","_law_bottom","_law_top"] (.str "law_ringloads_k05_rings_let_by" 344)
noncomputable def f26 (P:Params):List Obj:=fdef5 (top 26) 157 387 (.str "law_ringloads_k05_rings_let_by" 344)
noncomputable def f27 (P:Params):List Obj:=fdef7 (top 27) 162 393 ["_law_state","_law_ties","_law_kind","_law_alike","_law_one","_law_rooms_here","_law_more_here"] (.str "law_ringloads_k05_rings_let_by" 344)
noncomputable def f28 (P:Params):List Obj:=fdef7 (top 28) 169 406 ["_law_state","_law_shape","_law_places","_law_k","_law_one","_law_other"] (.str "law_ringloads_k05_rings_let_by" 344)
noncomputable def f29 (P:Params):List Obj:=fdef7 (top 29) 176 418 ["_law_script","_law_at","_law_most","_law_count","_law_state","_law_places","_law_many","_law_kinds","_law_shape","_law_names_here","_law_rooms_here","_law_asks","_law_k","_law_one","_law_other"] (.str "law_ringloads_k05_rings_let_by" 344)
noncomputable def f30 (P:Params):List Obj:=fdef7 (top 30) 183 439 ["_law_ring_here"] (.str "law_ringloads_k05_rings_let_by" 344)
noncomputable def f31 (P:Params):List Obj:=fdef5 (top 31) 190 446 (.str "law_ringloads_k05_rings_let_by" 344)
noncomputable def f32 (P:Params):List Obj:=fdef7 (top 32) 195 452 ["_law_ring_here","_law_handed"] (.str "law_ringloads_k05_rings_let_by" 344)
noncomputable def f33 (P:Params):List Obj:=fdef7 (top 33) 202 460 ["_law_script","_law_at","_law_ring_here","_law_more_here"] (.str "law_ringloads_k05_rings_let_by" 344)
noncomputable def obl (P:Params) (b:Nat):Obj:=(bif b.blt 82 then (bif b.blt 61 then (bif b.blt 35 then (f1 P).getD (b - 15) default else (bif b.blt 54 then (f2 P).getD (b - 35) default else (f4 P).getD (b - 54) default)) else (bif b.blt 68 then (f7 P).getD (b - 61) default else (bif b.blt 75 then (f8 P).getD (b - 68) default else (f9 P).getD (b - 75) default))) else (bif b.blt 101 then (bif b.blt 89 then (f10 P).getD (b - 82) default else (bif b.blt 94 then (f11 P).getD (b - 89) default else (f16 P).getD (b - 94) default)) else (bif b.blt 108 then (f17 P).getD (b - 101) default else (bif b.blt 115 then (f18 P).getD (b - 108) default else (f19 P).getD (b - 115) default))))
noncomputable def obr (P:Params) (b:Nat):Obj:=(bif b.blt 162 then (bif b.blt 143 then (bif b.blt 129 then (f20 P).getD (b - 122) default else (bif b.blt 136 then (f22 P).getD (b - 129) default else (f23 P).getD (b - 136) default)) else (bif b.blt 150 then (f24 P).getD (b - 143) default else (bif b.blt 157 then (f25 P).getD (b - 150) default else (f26 P).getD (b - 157) default))) else (bif b.blt 183 then (bif b.blt 169 then (f27 P).getD (b - 162) default else (bif b.blt 176 then (f28 P).getD (b - 169) default else (f29 P).getD (b - 176) default)) else (bif b.blt 195 then (bif b.blt 190 then (f30 P).getD (b - 183) default else (f31 P).getD (b - 190) default) else (bif b.blt 202 then (f32 P).getD (b - 195) default else (f33 P).getD (b - 202) default))))
noncomputable def ob (P:Params) (b:Nat):Obj:=bif b.blt 122 then obl P b else obr P b
noncomputable def ents (P:Params):List DictEntry:=[(DictEntry.mk (kh P "LoadError") (.str "LoadError" 214) (.ref 31)),
 (DictEntry.mk (kh P "NoRing") (.str "NoRing" 241) (.ref 51)),
 (DictEntry.mk (kh P "greatest_shared") (.str "greatest_shared" 252) (.ref 60)),
 (DictEntry.mk (kh P "LONGEST_NAME") (.str "LONGEST_NAME" 256) (.int 8 255)),
 (DictEntry.mk (kh P "is_whole") (.str "is_whole" 263) (.ref 67)),
 (DictEntry.mk (kh P "is_number_below") (.str "is_number_below" 271) (.ref 74)),
 (DictEntry.mk (kh P "are_two_wholes") (.str "are_two_wholes" 278) (.ref 81)),
 (DictEntry.mk (kh P "is_ratio") (.str "is_ratio" 285) (.ref 88)),
 (DictEntry.mk (kh P "is_name") (.str "is_name" 291) (.ref 93)),
 (DictEntry.mk (kh P "FEWEST_TIES") (.str "FEWEST_TIES" 295) (.int 2 294)),
 (DictEntry.mk (kh P "MOST_TIES") (.str "MOST_TIES" 297) (.int 12 296)),
 (DictEntry.mk (kh P "MOST_ASKS") (.str "MOST_ASKS" 299) (.int 20 298)),
 (DictEntry.mk (kh P "look_at_ring") (.str "look_at_ring" 306) (.ref 100)),
 (DictEntry.mk (kh P "look_at_rooms") (.str "look_at_rooms" 315) (.ref 107)),
 (DictEntry.mk (kh P "look_at_asks") (.str "look_at_asks" 324) (.ref 114)),
 (DictEntry.mk (kh P "look_at_each_ask") (.str "look_at_each_ask" 335) (.ref 121)),
 (DictEntry.mk (kh P "is_ask") (.str "is_ask" 343) (.ref 128)),
 (DictEntry.mk (kh P "_law_begun") (.str "_law_begun" 354) (.ref 135)),
 (DictEntry.mk (kh P "_law_take") (.str "_law_take" 365) (.ref 142)),
 (DictEntry.mk (kh P "_law_low") (.str "_law_low" 375) (.ref 149)),
 (DictEntry.mk (kh P "_law_amount") (.str "_law_amount" 386) (.ref 156)),
 (DictEntry.mk (kh P "_law_names") (.str "_law_names" 392) (.ref 161)),
 (DictEntry.mk (kh P "_law_rooms") (.str "_law_rooms" 405) (.ref 168)),
 (DictEntry.mk (kh P "_law_ends") (.str "_law_ends" 417) (.ref 175)),
 (DictEntry.mk (kh P "_law_ring") (.str "_law_ring" 438) (.ref 182)),
 (DictEntry.mk (kh P "_law_copy") (.str "_law_copy" 445) (.ref 189)),
 (DictEntry.mk (kh P "_law_more") (.str "_law_more" 451) (.ref 194)),
 (DictEntry.mk (kh P "_law_let_by") (.str "_law_let_by" 459) (.ref 201)),
 (DictEntry.mk (kh P "law") (.str "law" 469) (.ref 208))]
def plc:List Value:=[(.int 2 0),(.int 0 0),(.ref 20),(.int 6 0),(.int 0 0),(.ref 40),(.int 13 0),(.int 0 0),(.ref 59),(.int 21 0),(.int 0 0),(.ref 66),(.int 23 0),(.int 0 0),(.ref 73),(.int 25 0),(.int 0 0),(.ref 80),(.int 27 0),(.int 0 0),(.ref 87),(.int 29 0),(.int 0 0),(.ref 92),(.int 37 0),(.int 0 0),(.ref 99),(.int 42 0),(.int 0 0),(.ref 106),(.int 48 0),(.int 0 0),(.ref 113),(.int 52 0),(.int 0 0),(.ref 120),(.int 60 0),(.int 0 0),(.ref 127),(.int 69 0),(.int 0 0),(.ref 134),(.int 74 0),(.int 0 0),(.ref 141),(.int 85 0),(.int 0 0),(.ref 148),(.int 93 0),(.int 0 0),(.ref 155),(.int 97 0),(.int 0 0),(.ref 160),(.int 103 0),(.int 0 0),(.ref 167),(.int 113 0),(.int 0 0),(.ref 174),(.int 123 0),(.int 0 0),(.ref 181),(.int 137 0),(.int 0 0),(.ref 188),(.int 139 0),(.int 0 0),(.ref 193),(.int 152 0),(.int 0 0),(.ref 200),(.int 155 0),(.int 0 0),(.ref 207)]
noncomputable def ov0 (P:Params):List (Nat×Obj):=[(12,fldO (plc.take 0))]
noncomputable def T0 (P:Params):BT:=L12 15 (fun b=>obAt [12] P (ov0 P) ob b 0) 1 0 0
noncomputable abbrev S0 (w:World) (os:OsState):SharedT:=⟨T0 w.params,15,life0,#[],⟨0,0,0,0⟩,187,os⟩
noncomputable def ov1 (P:Params):List (Nat×Obj):=[(3,mainD P (.str "ringloads.errors" 187) ((ents P).take 1) 10),(12,fldO (plc.take 3)),(31,(Obj.mk (.type "type") none (.cls (PySem.ClassData.mk "LoadError" [(.type "ValueError")] [(.ref 31),(.type "ValueError"),(.type "Exception"),(.type "BaseException"),(.type "object")] 30 "LoadError" true [] [] false none false)) #[(some (.ref 15)),none,(some (.str "LoadError" 189)),(some (.str "LoadError" 197)),(some (.builtin "ValueError.__new__")),(some (.bool true))]))]
noncomputable def T1 (P:Params):BT:=L12 35 (fun b=>obAt [3,12,31] P (ov1 P) ob b 1) 1 0 1
noncomputable abbrev S1 (w:World) (os:OsState):SharedT:=⟨T1 w.params,35,life0,#[],⟨0,0,0,0⟩,215,os⟩
noncomputable def ov2 (P:Params):List (Nat×Obj):=[(3,mainD P (.str "ringloads.names" 253) ((ents P).take 7) 16),(12,fldO (plc.take 18))]
noncomputable def T2 (P:Params):BT:=L12 82 (fun b=>obAt [3,12] P (ov2 P) ob b 2) 1 0 2
noncomputable abbrev S2 (w:World) (os:OsState):SharedT:=⟨T2 w.params,82,life0,#[],⟨0,0,0,0⟩,279,os⟩
noncomputable def ov3 (P:Params):List (Nat×Obj):=[(3,mainD P (.str "law_ringloads_k05_rings_let_by" 344) ((ents P).take 21) 30),(12,fldO (plc.take 51))]
noncomputable def T3 (P:Params):BT:=L12 157 (fun b=>obAt [3,12] P (ov3 P) ob b 3) 1 0 3
noncomputable abbrev S3 (w:World) (os:OsState):SharedT:=⟨T3 w.params,157,life0,#[],⟨0,0,0,0⟩,387,os⟩
noncomputable def ov4 (P:Params):List (Nat×Obj):=[(3,mainD P (.str "law_ringloads_k05_rings_let_by" 344) ((ents P).take 29) 38),(12,fldO (plc.take 75))]
noncomputable def T4 (P:Params):BT:=L12 209 (fun b=>obAt [3,12] P (ov4 P) ob b 4) 1 0 4
noncomputable abbrev S4 (w:World) (os:OsState):SharedT:=⟨T4 w.params,209,life0,#[],⟨0,0,0,0⟩,470,os⟩
abbrev env:Env:={ scope:=pr.main.scope,locals:=mainNs,globals:=mainNs,cells:=[],code:=.ref 13,frame:=some 14 }
abbrev cE:Code:=.body (behindTheImports pr) env
abbrev B:List Frame:=[topFrame ⟨0,0,0,0⟩]
def sts1:List Stmt:=(pr.main.body.drop 0).take 2
theorem pc1 (w:World) (os:OsState):segRunT treeTable pr w 11 (some (.ref 6)) 1 227 (S0 w os) (piecesOf sts1 env cE ⟨0,0,0,0⟩ B)=some (.next,S1 w os,cE,⟨2,0,5,39⟩):=seg_by (by kernel_rfl)
def sts2:List Stmt:=(pr.main.body.drop 2).take 8
theorem pc2 (w:World) (os:OsState):segRunT treeTable pr w 11 (some (.ref 6)) 1 394 (S1 w os) (piecesOf sts2 env cE ⟨2,0,5,39⟩ B)=some (.next,S2 w os,cE,⟨25,0,26,101⟩):=seg_by (by kernel_rfl)
def sts3:List Stmt:=(pr.main.body.drop 10).take 16
theorem pc3 (w:World) (os:OsState):segRunT treeTable pr w 11 (some (.ref 6)) 1 384 (S2 w os) (piecesOf sts3 env cE ⟨25,0,26,101⟩ B)=some (.next,S3 w os,cE,⟨93,0,96,42⟩):=seg_by (by kernel_rfl)
def sts4:List Stmt:=(pr.main.body.drop 26).take 8
theorem pc4 (w:World) (os:OsState):segRunT treeTable pr w 11 (some (.ref 6)) 1 256 (S3 w os) (piecesOf sts4 env cE ⟨93,0,96,42⟩ B)=some (.next,S4 w os,cE,⟨155,0,164,15⟩):=seg_by (by kernel_rfl)
noncomputable abbrev H1 (P:Params):Heap:=absHeap (T4 P) 209 life0
theorem pre (w:World) (os:OsState):topGo treeTable pr w 11 (some (.ref 6)) 12 ⟨boot_heap w.params,#[],boot_drawn,boot_toks,os⟩ (topStub pr)=some (⟨⟨⟨bootL w.params⟩,life0⟩,#[],⟨0,0,0,0⟩,187,os⟩,⟨denote treeTable cE,cE,⟨0,0,0,0⟩,B⟩):=by rw [den_tw]; exact go_by (by kernel_rfl)
theorem block (w:World) (os:OsState):segRun treeTable pr w 11 (some (.ref 6)) 1 1 ⟨⟨⟨bootL w.params⟩,life0⟩,#[],⟨0,0,0,0⟩,187,os⟩ (blockOf (behindTheImports pr) env cE ⟨0,0,0,0⟩ B)=some (.next,(S0 w os).abs,cE,⟨0,0,0,0⟩):=by kernel_rfl
theorem fin (w:World) (os:OsState):topRun treeTable pr w 11 (some (.ref 6)) 2 (S4 w os).abs ⟨doneF .next,cE,⟨155,0,164,15⟩,B⟩=some ⟨H1 w.params,#[],⟨0,0,0,0⟩,470,os⟩:=top_by (by kernel_rfl)
theorem body_eq:behindTheImports pr=(sts1++(sts2++(sts3++(sts4++[])))):=by kernel_rfl
theorem run (w:World) (os:OsState):topRun treeTable pr w 11 (some (.ref 6)) (12+(1+(227+(394+(384+(256+2)))))) ⟨boot_heap w.params,#[],boot_drawn,boot_toks,os⟩ (topStub pr)=some ⟨H1 w.params,#[],⟨0,0,0,0⟩,470,os⟩ :=
 go_top (pre w os) (piece_block (block w os) (rest_eq body_eq (piece_app (segRun_of (pc1 w os)) (piece_app (segRun_of (pc2 w os)) (piece_app (segRun_of (pc3 w os)) (piece_app (segRun_of (pc4 w os)) (piece_nil (fin w os))))))))
abbrev q:Program:=view pr [18,33]
def loose:List Str:=(["LoadError","NoRing","greatest_shared","LONGEST_NAME","is_whole","is_number_below","are_two_wholes","is_ratio","is_name","FEWEST_TIES","MOST_TIES","MOST_ASKS","look_at_ring","look_at_rooms","look_at_each_ask","is_ask","_law_begun","_law_take","_law_low","_law_amount","_law_names","_law_rooms","_law_ends","_law_ring","_law_copy","_law_more","_law_let_by"]:List String).map Str.ofString
noncomputable def Kf (P:Params):Frag:=(3,((ov4 P).getD 0 (0,default)).2)::[(2,boot_o_2 P),(15,(f1 P).getD 0 default),(16,(f1 P).getD 1 default),(17,(f1 P).getD 2 default),(18,(f1 P).getD 3 default),(19,(f1 P).getD 4 default),(20,(f1 P).getD 5 default),(21,(f1 P).getD 6 default),(22,(f1 P).getD 7 default),(23,(f1 P).getD 8 default),(24,(f1 P).getD 9 default),(25,(f1 P).getD 10 default),(26,(f1 P).getD 11 default),(27,(f1 P).getD 12 default),(28,(f1 P).getD 13 default),(29,(f1 P).getD 14 default),(30,(f1 P).getD 15 default),(31,(f1 P).getD 16 default),(32,(f1 P).getD 17 default),(33,(f1 P).getD 18 default),(34,(f1 P).getD 19 default),(35,(f2 P).getD 0 default),(36,(f2 P).getD 1 default),(37,(f2 P).getD 2 default),(38,(f2 P).getD 3 default),(39,(f2 P).getD 4 default),(40,(f2 P).getD 5 default),(41,(f2 P).getD 6 default),(42,(f2 P).getD 7 default),(43,(f2 P).getD 8 default),(44,(f2 P).getD 9 default),(45,(f2 P).getD 10 default),(46,(f2 P).getD 11 default),(47,(f2 P).getD 12 default),(48,(f2 P).getD 13 default),(49,(f2 P).getD 14 default),(50,(f2 P).getD 15 default),(51,(f2 P).getD 16 default),(52,(f2 P).getD 17 default),(53,(f2 P).getD 18 default),(59,(f4 P).getD 5 default),(60,(f4 P).getD 6 default),(66,(f7 P).getD 5 default),(67,(f7 P).getD 6 default),(73,(f8 P).getD 5 default),(74,(f8 P).getD 6 default),(80,(f9 P).getD 5 default),(81,(f9 P).getD 6 default),(87,(f10 P).getD 5 default),(88,(f10 P).getD 6 default),(92,(f11 P).getD 3 default),(93,(f11 P).getD 4 default),(99,(f16 P).getD 5 default),(100,(f16 P).getD 6 default),(106,(f17 P).getD 5 default),(107,(f17 P).getD 6 default),(113,(f18 P).getD 5 default),(114,(f18 P).getD 6 default),(120,(f19 P).getD 5 default),(121,(f19 P).getD 6 default),(127,(f20 P).getD 5 default),(128,(f20 P).getD 6 default),(134,(f22 P).getD 5 default),(135,(f22 P).getD 6 default),(141,(f23 P).getD 5 default),(142,(f23 P).getD 6 default),(148,(f24 P).getD 5 default),(149,(f24 P).getD 6 default),(155,(f25 P).getD 5 default),(156,(f25 P).getD 6 default),(160,(f26 P).getD 3 default),(161,(f26 P).getD 4 default),(167,(f27 P).getD 5 default),(168,(f27 P).getD 6 default),(174,(f28 P).getD 5 default),(175,(f28 P).getD 6 default),(181,(f29 P).getD 5 default),(182,(f29 P).getD 6 default),(188,(f30 P).getD 5 default),(189,(f30 P).getD 6 default),(193,(f31 P).getD 3 default),(194,(f31 P).getD 4 default),(200,(f32 P).getD 5 default),(201,(f32 P).getD 6 default),(207,(f33 P).getD 5 default),(208,(f33 P).getD 6 default)]
abbrev as:List Addr:=[3,2,15,16,17,18,19,20,21,22,23,24,25,26,27,28,29,30,31,32,33,34,35,36,37,38,39,40,41,42,43,44,45,46,47,48,49,50,51,52,53,59,60,66,67,73,74,80,81,87,88,92,93,99,100,106,107,113,114,120,121,127,128,134,135,141,142,148,149,155,156,160,161,167,168,174,175,181,182,188,189,193,194,200,201,207,208]
noncomputable abbrev Hk:Hook:=kHook Kf as (fun _=>by kernel_rfl)
abbrev Xt:Shared→Bool:=fun s=>xlAt q [] s && recOk (RowW.records PySem.Challenge.rw_ringloads_k05_rings_let_by.row.toRowW) s
theorem size (w:World):((boot_heap w.params).isNs mainGlobals && (#[]:Array GenState).size == 0,(boot_heap w.params).objs.size,(boot_heap w.params).nsMap mainGlobals "__annotations__")=(true,11,some (.ref 6)):=by kernel_rfl
theorem look1 (w:World) (os:OsState):(staticsOk (importedModules pr.main.body) (boot_heap w.params) (H1 w.params) && namesBound pr (H1 w.params) && gensDone ⟨H1 w.params,#[],⟨0,0,0,0⟩,470,os⟩ && laidKept (boot_heap w.params) (H1 w.params))=true:=by kernel_rfl
theorem look2 (w:World) (os:OsState):openSeen q loose (importedModules pr.main.body) Xt true ⟨H1 w.params,#[],⟨0,0,0,0⟩,470,os⟩=openGood q loose:=by rw [Fast.te4187177175401517315]; kernel_rfl
theorem look3 (w:World) (os:OsState):Hk.obs ⟨H1 w.params,#[],⟨0,0,0,0⟩,470,os⟩=Hk.val w:=by kernel_rfl
theorem opened:opening pr=plainProg pr.main.scope.names:=by kernel_rfl
theorem left:LeftO pr q loose Xt Hk.obs Hk.val 3214:=LeftO.of_pieces (M:=(12+(1+(227+(394+(384+(256+2))))))) (boot_open opened (by decide) (fun s=>by kernel_rfl)) size run (by decide +kernel) (fun w=>funext fun os=>looks_pair (look1 w os) (looks_pair (look2 w os) (look3 w os)))
end Hd
namespace My
open PySem L2
local macro_rules | `(tactic| walk_at "w")=>do
 let ids:=("wCallXL wCallFn datV fnV isDk noLs noL wCallX wRaise isA xflds okX takeW_bx takeW_d tupOf_bx wDIn wDSet wDct dicV keyOf noLr_dic flatL_dic wSrcS signsOf varW_d varW_own varW_bx movW_d movW_own movW_bx selW_own selW_d selW_bx pkW_own pkW_bx pkW_d pkB_own pkB_bx pkB_d fzW_own fzW_d toDB_t toDB_o eraK_nil eraK_cons noLr_un noLr_d noLr_own noLr_bx noLrs_nil noLrs_cons flatL_bx wChainN wLinks opLe2 wSeq wIf wTest wBin wUn wVar wMove wC wSet wRet wDrop wNext wCall wCallB wCallD aVal aVar aNil toD toDs toInt isBl wTup wLst wNot wAnd wOr wAndV wNotV wFrz wIsOwn wIxV wSetV wLenV wApp noL noLs flatOwn flatL_un flatL_d flatL_own List.all_cons List.all_nil Bool.and_true Bool.true_and ownV wPar wAsgT wFor wRng1 wSrc wEnum wJoin wChain itemsOf_lst itemsOf_tup itemsOf_fr tgName tgTup_tup tgTup_ask tgTup_fr tgNames opAdd opSub opMulI opDiv opMod opPow opLt opLe opGt opGe opEq opNe opIx_lst opIx_tup opIx_str ix_ring0 ix_ring1 ix_ask0 ix_ask1 ix_ask2 ix_ask3 ix_fr0 ix_fr1 ix_cut0 ix_cut1 ix_g0 ix_g1 noL_cut shape_cut eqD_cut eqD_fr shape_fr noL_fr noLs_frs noLs_cuts noLs_ints shape_on shape_back shape_way way_on way_back List.length_map rooms_len opLen_lst opLen_tup opLen_str opLen_fr opLen_ring opLen_ask isTy_tup_fr isTy_lst_fr isTy_int_fr isTy_bool_fr isTy_str_fr isTy_tup_ring noLs_frL frL_len opAbs opMin opMax opInt opList opIsT isTy_non isTy_bl isTy_int isTy_str isTy_tup isTy_lst isTy_tup_g isTy_tup_cut isTy_tup_ask opLen_cut opLen_g opIsN beq_self_eq_true String.reduceBEq String.reduceEq reduceCtorEq wSl2 wPart wComp capsOf putAll unsAt shapeD_int shapeD_bl shapeD_non eqD_int eqD_str eqD_bl List.getElem?_cons_zero List.getElem?_cons_succ List.set_cons_zero List.set_cons_succ List.cons_append List.nil_append List.replicate_succ List.replicate_zero List.map_cons List.map_nil List.drop_succ_cons List.drop_zero Option.getD_some true_and decide_eq_true_eq Bool.not_eq_true' decide_eq_false_iff_not ite_true ite_false Bool.false_eq_true Bool.true_eq_false if_true if_false List.length_cons List.length_nil Nat.reduceAdd Nat.reduceSub atI_0 atI_1 atI_2 atI_3 atI_4 ix30 ix31 ix32 Option.some.injEq exists_eq_left' exists_eq_left".splitOn " ").toArray.map fun s=>Lean.mkIdent ((s.splitOn ".").foldl Lean.Name.mkStr Lean.Name.anonymous)
 `(tactic| try simp only [$[$ids:ident],*])
local macro_rules | `(tactic| walk_at "o")=>`(tactic| first | exact Or.inl rfl | exact Or.inr rfl)
abbrev s_greatest_shared:Stmt:=Hd.top 4
abbrev N_greatest_shared:List Str:=["one","other","rest"]
abbrev s_is_whole:Stmt:=Hd.top 7
abbrev N_is_whole:List Str:=["thing"]
abbrev s_is_number_below:Stmt:=Hd.top 8
abbrev N_is_number_below:List Str:=["thing","many"]
abbrev s_are_two_wholes:Stmt:=Hd.top 9
abbrev N_are_two_wholes:List Str:=["thing"]
abbrev s_is_ratio:Stmt:=Hd.top 10
abbrev N_is_ratio:List Str:=["thing"]
abbrev s_is_name:Stmt:=Hd.top 11
abbrev N_is_name:List Str:=["thing"]
abbrev s_look_at_rooms:Stmt:=Hd.top 17
abbrev N_look_at_rooms:List Str:=["rooms","number","room"]
abbrev s_is_ask:Stmt:=Hd.top 20
abbrev N_is_ask:List Str:=["thing","is_end"]
abbrev s_look_at_each_ask:Stmt:=Hd.top 19
abbrev N_look_at_each_ask:List Str:=["asks","is_end","taken","number","ask"]
abbrev s_look_at_asks:Stmt:=Hd.top 18
abbrev N_look_at_asks:List Str:=["asks","places"]
abbrev s_look_at_ring:Stmt:=Hd.top 16
abbrev N_look_at_ring:List Str:=["thing"]
abbrev s__law_begun:Stmt:=Hd.top 22
abbrev N__law_begun:List Str:=["_law_script","_law_k","_law_cell"]
abbrev s__law_take:Stmt:=Hd.top 23
abbrev N__law_take:List Str:=["_law_state","_law_many","_law_digit","_law_drawn","_law_turn"]
abbrev s__law_names:Stmt:=Hd.top 26
abbrev N__law_names:List Str:=["_law_state","_law_many","_law_letters","_law_base","_law_at","_law_turn"]
abbrev s__law_low:Stmt:=Hd.top 24
abbrev N__law_low:List Str:=["_law_top","_law_bottom","_law_one","_law_share"]
abbrev s__law_amount:Stmt:=Hd.top 25
abbrev N__law_amount:List Str:=["_law_state","_law_least","_law_kind","_law_bottom","_law_top"]
abbrev s__law_rooms:Stmt:=Hd.top 27
abbrev N__law_rooms:List Str:=["_law_state","_law_ties","_law_kind","_law_alike","_law_one","_law_rooms_here","_law_more_here"]
abbrev s__law_ends:Stmt:=Hd.top 28
abbrev N__law_ends:List Str:=["_law_state","_law_shape","_law_places","_law_k","_law_one","_law_other"]
abbrev s__law_ring:Stmt:=Hd.top 29
abbrev N__law_ring:List Str:=["_law_script","_law_at","_law_most","_law_count","_law_state","_law_places","_law_many","_law_kinds","_law_shape","_law_names_here","_law_rooms_here","_law_asks","_law_k","_law_one","_law_other"]
abbrev s__law_copy:Stmt:=Hd.top 30
abbrev N__law_copy:List Str:=["_law_ring_here"]
abbrev s__law_let_by:Stmt:=Hd.top 32
abbrev N__law_let_by:List Str:=["_law_ring_here","_law_handed"]
abbrev s__law_more:Stmt:=Hd.top 31
abbrev N__law_more:List Str:=["_law_state","_law_ring_here","_law_rooms_here","_law_asks","_law_wide","_law_names_here","_law_full","_law_one","_law_other","_law_still","_law_back"]
abbrev s_law:Stmt:=Hd.top 33
abbrev N_law:List Str:=["_law_script","_law_at","_law_ring_here","_law_more_here"]
def fs_greatest_shared:FS:=fun ls post=>∃ a b:Int,ls=[.d (.int a),.d (.int b)]∧post (.d (.int (Int.gcd a b))) ls
def b_greatest_shared_0:W Fl:=(wSeq (wSet 2 (wBin opMod (wVar 0) (wVar 1)))
  (wSeq (wSet 0 (wVar 1))
  (wSet 1 (wVar 2))))
def m_greatest_shared:W Fl:=(wSeq (wWhile (wTest (wBin opNe (wVar 1) (wC (.int 0)))) b_greatest_shared_0)
  (wRet (wCallD opAbs (aVal (wVar 0) aNil))))
theorem sat_greatest_shared:∀ ls post,ls.length=2→fs_greatest_shared ls post→m_greatest_shared (ls++List.replicate 1 .un) (okEnd ls post):=by
 rintro ls post - ⟨a,b,rfl,h⟩
 unfold m_greatest_shared
 walk_at "w"
 refine ⟨fun n ρ=>∃ x y r,ρ=[.d (.int x),.d (.int y),r]∧Int.gcd x y=Int.gcd a b∧n=y.natAbs,⟨_,a,b,_,rfl,rfl,rfl⟩,?_⟩
 rintro n ρ ⟨x,y,r,rfl,hg,rfl⟩
 walk_at "w"
 split
 ·
  rename_i hy
  have hy:y≠0:=by simpa using hy
  exact ⟨hy,_,natAbs_fmod_lt x hy,y,x.fmod y,_,rfl,by rw [gcd_fmod]; exact hg,rfl⟩
 ·
  rename_i hy
  have hy:y=0:=by simpa using hy
  subst hy
  refine ⟨_,back_d (back_d back0),?_⟩
  have e:(if x < 0 then -x else x)=((Int.gcd a b:Nat):Int):=by rw [← hg,Int.gcd_zero_right]; split <;> omega
  rw [e]
  exact h
def fs_is_whole:FS:=fun ls post=>(∃ i:Int,ls=[.d (.int i)]∧post (.d (.bl true)) ls)∨∃ d:D,ls=[.d d]∧(∀ i,d≠.int i)∧post (.d (.bl false)) ls
def m_is_whole:W Fl:=(wRet (wAndV (wUn (opIsT "int") (wVar 0)) (wNotV (wTest (wUn (opIsT "bool") (wVar 0))))))
theorem sat_is_whole:∀ ls post,ls.length=1→fs_is_whole ls post→m_is_whole (ls++List.replicate 0 .un) (okEnd ls post):=by
 rintro ls post - (⟨i,rfl,h⟩ | ⟨d,rfl,hd,h⟩)
 ·
  unfold m_is_whole
  walk_at "w"
  exact ⟨_,back_d back0,h⟩
 ·
  unfold m_is_whole
  cases d with
  | int i=>exact absurd rfl (hd i)
  | _=>walk_at "w"; exact ⟨_,back_d back0,h⟩
def fs_is_number_below:FS:=fun ls post=>∃ (d:D) (n:Int),ls=[.d d,.d (.int n)]∧post (.d (.bl (numbB d n))) ls
def m_is_number_below:W Fl:=(wRet (wAndV (wCall fs_is_whole (aVal (wVar 0) aNil)) (wChain opLe opLt (wC (.int 0)) (wVar 0) (wVar 1))))
theorem sat_is_number_below:∀ ls post,ls.length=2→fs_is_number_below ls post→m_is_number_below (ls++List.replicate 0 .un) (okEnd ls post):=by
 rintro ls post - ⟨d,n,rfl,h⟩
 unfold m_is_number_below
 by_cases hd:∃ i,d=.int i
 ·
  obtain ⟨i,rfl⟩:=hd
  have h:post (.d (.bl (decide (0≤i∧i < n)))) [.d (.int i),.d (.int n)]:=h
  walk_at "w"
  refine .inl ⟨i,rfl,?_⟩
  walk_at "w"
  by_cases c:0≤i
  ·
   rw [if_pos c]
   have e:decide (0≤i∧i < n)=decide (i < n):=by rw [decide_eq_decide]; omega
   rw [e] at h
   exact ⟨_,back_d (back_d back0),h⟩
  ·
   rw [if_neg c]
   have e:decide (0≤i∧i < n)=false:=decide_eq_false (by omega)
   rw [e] at h
   exact ⟨_,back_d (back_d back0),h⟩
 ·
  have e:numbB d n=false:=by
   unfold numbB
   split
   ·
    exact absurd ⟨_,rfl⟩ hd
   ·
    rfl
  rw [e] at h
  walk_at "w"
  refine .inr ⟨d,rfl,fun i e=>hd ⟨i,e⟩,?_⟩
  walk_at "w"
  exact ⟨_,back_d (back_d back0),h⟩
/-- a tuple of two whole numbers -/
def twoB:D→Bool
 | .tup [.int _,.int _]=>true
 | _=>false
theorem twoB_is {d:D} (h:twoB d=true):∃ i j,d=.tup [.int i,.int j]:=by
 unfold twoB at h
 split at h
 ·
  exact ⟨_,_,rfl⟩
 ·
  cases h
theorem two_cases (d:D):(∃ i j,d=.tup [.int i,.int j])∨(∀ i j,d≠.tup [.int i,.int j]):=by
 cases h:twoB d with
 | true=>exact .inl (twoB_is h)
 | false=>exact .inr fun i j e=>by subst e; cases h
def fs_are_two_wholes:FS:=fun ls post=>(∃ i j:Int,ls=[.d (.tup [.int i,.int j])]∧post (.d (.bl true)) ls)∨∃ d:D,ls=[.d d]∧(∀ i j,d≠.tup [.int i,.int j])∧post (.d (.bl false)) ls
def m_are_two_wholes:W Fl:=(wRet (wAndV (wUn (opIsT "tuple") (wVar 0)) (wAndV (wBin opEq (wCallD opLen (aVal (wVar 0) aNil)) (wC (.int 2))) (wAndV (wCall fs_is_whole (aVal (wBin opIx (wVar 0) (wC (.int 0))) aNil)) (wCall fs_is_whole (aVal (wBin opIx (wVar 0) (wC (.int 1))) aNil))))))
theorem sat_are_two_wholes:∀ ls post,ls.length=1→fs_are_two_wholes ls post→m_are_two_wholes (ls++List.replicate 0 .un) (okEnd ls post):=by
 rintro ls post - (⟨i,j,rfl,h⟩ | ⟨d,rfl,hd,h⟩)
 ·
  unfold m_are_two_wholes
  walk_at "w"
  refine .inl ⟨_,rfl,?_⟩
  walk_at "w"
  refine .inl ⟨_,rfl,?_⟩
  walk_at "w"
  exact ⟨_,back_d back0,h⟩
 ·
  unfold m_are_two_wholes
  have fin:∀ b:Bool,b=false→okEnd [.d d] post (.rt (.d (.bl b))) [.d d]:=fun b hb=>by subst hb; exact ⟨_,back_d back0,h⟩
  cases d with
  | tup xs =>
   match xs,hd with
   | [x,y],hd =>
    walk_at "w"
    have wh:∀ z:D,(∃ i,z=.int i)∨(∀ i,z≠.int i):=fun z=>by cases z <;> simp
    rcases wh x with ⟨i,rfl⟩ | hx
    ·
     refine .inl ⟨_,rfl,?_⟩
     walk_at "w"
     rcases wh y with ⟨j,rfl⟩ | hy
     ·
      exact absurd rfl (hd i j)
     ·
      refine .inr ⟨_,rfl,hy,?_⟩
      walk_at "w"
      exact fin _ rfl
    ·
     refine .inr ⟨_,rfl,hx,?_⟩
     walk_at "w"
     exact fin _ rfl
   | [],_=>walk_at "w"; exact fin _ rfl
   | [x],_=>walk_at "w"; exact fin _ rfl
   | x::y::z::r,_ =>
    walk_at "w"
    have e:¬ (((r.length+1+1+1:Nat):Int)=2):=by omega
    simp only [e,decide_false]
    exact fin _ rfl
  | _=>walk_at "w"; exact fin _ rfl
def fs_is_ratio:FS:=fun ls post=>∃ d:D,ls=[.d d]∧post (.d (.bl (ratB d))) ls
def m_is_ratio:W Fl:=(wRet (wAndV (wCall fs_are_two_wholes (aVal (wVar 0) aNil)) (wAndV (wBin opGe (wBin opIx (wVar 0) (wC (.int 1))) (wC (.int 1))) (wBin opEq (wCall fs_greatest_shared (aVal (wBin opIx (wVar 0) (wC (.int 0))) (aVal (wBin opIx (wVar 0) (wC (.int 1))) aNil))) (wC (.int 1))))))
theorem sat_is_ratio:∀ ls post,ls.length=1→fs_is_ratio ls post→m_is_ratio (ls++List.replicate 0 .un) (okEnd ls post):=by
 rintro ls post - ⟨d,rfl,h⟩
 by_cases hd:∃ i j,d=.tup [.int i,.int j]
 ·
  obtain ⟨i,j,rfl⟩:=hd
  unfold m_is_ratio
  walk_at "w"
  refine .inl ⟨_,_,rfl,?_⟩
  walk_at "w"
  have e:ratB (.tup [.int i,.int j])=(decide (1≤j) && decide ((Int.gcd i j:Int)=1)):=rfl
  rw [e] at h
  split
  ·
   rename_i hj
   refine ⟨_,_,rfl,?_⟩
   walk_at "w"
   have hj':(1:Int)≤j:=hj
   rw [decide_eq_true hj',Bool.true_and] at h
   exact ⟨_,back_d back0,h⟩
  ·
   rename_i hj
   have hj':¬ (1:Int)≤j:=hj
   rw [decide_eq_false hj',Bool.false_and] at h
   exact ⟨_,back_d back0,h⟩
 ·
  have hn:∀ i j,d≠.tup [.int i,.int j]:=fun i j e=>hd ⟨i,j,e⟩
  rw [ratB_no hn] at h
  unfold m_is_ratio
  walk_at "w"
  refine .inr ⟨_,rfl,hn,?_⟩
  walk_at "w"
  exact ⟨_,back_d back0,h⟩
def fs_is_name:FS:=fun ls post=>∃ d:D,ls=[.d d]∧AscD d∧post (.d (.bl (nameB d))) ls
def b_is_name_0:W L:=(wChainN (wC (.str "a")) [(opLe2,(wVar 0)),(opLe2,(wC (.str "z")))])
def m_is_name:W Fl:=(wSeq (wIf (wNot (wTest (wUn (opIsT "str") (wVar 0)))) (wRet (wC (.bl false))) wNext)
  (wRet (wAndV (wChain opLe opLe (wC (.int 1)) (wCallD opLen (aVal (wVar 0) aNil)) (wC (.int 8))) (wCallD opAll (aVal (wFrz (wComp 1 [] (wSrcS (wVar 0)) (tgName 0) wTrue b_is_name_0)) aNil)))))
theorem sat_is_name:∀ ls post,ls.length=1→fs_is_name ls post→m_is_name (ls++List.replicate 0 .un) (okEnd ls post):=by
 rintro ls post - ⟨d,rfl,ha,h⟩
 unfold m_is_name
 cases d with
 | str x =>
  obtain ⟨hx,hs⟩:=ha x rfl
  walk_at "w"
  have el:=size_len x
  have e8:nameB (.str x)=((decide (1≤x.cps.size) && decide (x.cps.size≤8)) && x.cps.toList.all signB):=rfl
  rw [e8] at h
  refine ⟨Nat.le_trans (show x.length≤100 by omega) (by decide),?_⟩
  by_cases h1:1≤x.cps.size
  ·
   rw [if_pos (show (1:Int)≤(x.length:Int) by omega)]
   by_cases h2:x.cps.size≤8
   ·
    rw [if_pos (show (x.length:Int)≤8 by omega)]
    rw [decide_eq_true h1,decide_eq_true h2,Bool.true_and,Bool.true_and] at h
    refine ⟨hx,by unfold signsD; rw [List.length_map,Array.length_toList]; exact Nat.le_trans (show x.cps.size≤100 by omega) (by decide),?_⟩
    unfold signsD
    refine comp_map (enc:=fun c=>D.str ⟨#[c]⟩) (h:=fun c=>D.bl (signB c)) _ _ _ (fun c hc Q q=>?_) fun l'=>?_
    ·
     unfold b_is_name_0
     walk_at "w"
     unfold signB at q
     cases e1:strLe "a" ⟨#[c]⟩ with
     | false=>rw [e1,Bool.false_and] at q; rw [if_neg (by simp)]; exact q
     | true=>rw [e1,Bool.true_and] at q; rw [if_pos rfl]; exact q
    ·
     walk_at "w"
     intro aa
     refine ⟨x.cps.toList.map signB,by rw [List.map_map]; rfl,?_⟩
     have e9:(x.cps.toList.map signB).all id=x.cps.toList.all signB:=by rw [List.all_map]; rfl
     rw [e9]
     exact ⟨_,back_d back0,h⟩
   ·
    rw [if_neg (show ¬ (x.length:Int)≤8 by omega)]
    rw [decide_eq_false h2,Bool.and_false,Bool.false_and] at h
    exact ⟨_,back_d back0,h⟩
  ·
   rw [if_neg (show ¬ (1:Int)≤(x.length:Int) by omega)]
   rw [decide_eq_false h1,Bool.false_and,Bool.false_and] at h
   exact ⟨_,back_d back0,h⟩
 | _=>walk_at "w"; exact ⟨_,back_d back0,h⟩
def fs_look_at_rooms:FSX:=fun ds post xp=>∃ d:D,ds=[d]∧(∀ rs,d=.lst rs→rs.length≤1000)∧(badRooms d=none→post (.d .non))∧∀ k,badRooms d=some k→xp (NR "rooms" (optN k))
def b_look_at_rooms_0 (xp:Xc→Prop):W Fl:=(wIf (wOr (wNot (wTest (wCall fs_is_ratio (aVal (wVar 2) aNil)))) (wTest (wBin opLe (wBin opIx (wVar 2) (wC (.int 0))) (wC (.int 0))))) (wRaise "NoRing" ["part","number"] xp (aVal (wC (.str "rooms")) (aVal (wVar 1) aNil))) wNext)
def m_look_at_rooms (xp:Xc→Prop):W Fl:=(wSeq (wIf (wOr (wNot (wTest (wUn (opIsT "list") (wVar 0)))) (wNot (wTest (wChain opLe opLe (wC (.int 2)) (wCallD opLen (aVal (wVar 0) aNil)) (wC (.int 12)))))) (wRaise "NoRing" ["part","number"] xp (aVal (wC (.str "rooms")) (aVal (wC .non) aNil))) wNext)
  (wFor (wEnum (wVar 0)) (tgTup [1,2]) (b_look_at_rooms_0 xp)))
theorem rooms_loop {xp:Xc→Prop} {d:D} {post:Fl→Ev→Prop}:∀ (rs:List D) (i:Nat) (l1 l2:L),((rs.findIdx? fun r=>!rmB r)=none→∀ l1 l2,post .nx [.d d,l1,l2])→(∀ k,(rs.findIdx? fun r=>!rmB r)=some k→xp (NR "rooms" (.int ((i+k:Nat):Int)))) →
  wForL (tgTup [1,2]) (b_look_at_rooms_0 xp) (enumF i rs) [.d d,l1,l2] post
 | [],i,l1,l2,h,_=>h rfl l1 l2
 | r::rs,i,l1,l2,h,hx=>by
  rw [enumF_cons,wForL_cons]
  unfold b_look_at_rooms_0
  walk_at "w"
  refine ⟨r,rfl,?_⟩
  rw [List.findIdx?_cons] at h hx
  cases hb:rmB r with
  | true =>
   rw [hb] at h hx
   obtain ⟨a,b,rfl⟩:∃ a b,r=.tup [.int a,.int b]:=by
    cases hq:two_cases r with
    | inl z=>exact z
    | inr z=>rw [rmB_no z] at hb; cases hb
   have hb':ratB (.tup [.int a,.int b])=true∧0 < a:=by simpa [rmB] using hb
   rw [hb'.1]
   walk_at "w"
   rw [if_neg (by omega)]
   refine rooms_loop rs (i+1) _ _ (fun e=>h (by simpa using e)) fun k e=>?_
   have:=hx (k+1) (by simp [e])
   rw [show i+1+k=i+(k+1) by omega]
   exact this
  | false =>
   rw [hb] at h hx
   have bad:=hx 0 (by simp)
   rw [Nat.add_zero] at bad
   cases hr:ratB r with
   | false =>
    walk_at "w"
    exact ⟨.inr trivial,by decide,bad⟩
   | true =>
    obtain ⟨a,b,rfl⟩:=ratB_is hr
    have ha:¬ 0 < a:=by
     intro z
     simp only [rmB,hr,Bool.true_and,decide_eq_false_iff_not] at hb
     exact hb z
    walk_at "w"
    rw [if_pos (by omega)]
    exact ⟨.inr trivial,by decide,bad⟩
theorem sat_look_at_rooms:∀ ds post xp,ds.length=1→fs_look_at_rooms ds post xp→m_look_at_rooms xp (ds.map .d++List.replicate 2 .un) (okX post):=by
 rintro ds post xp - ⟨d,rfl,hl,h,hx⟩
 unfold m_look_at_rooms
 cases d with
 | lst rs =>
  have hlen:=hl rs rfl
  simp only [badRooms] at h hx
  walk_at "w"
  have bad:¬ (2≤rs.length∧rs.length≤12)→xp (NR "rooms" .non):=fun z=>hx none (by rw [if_neg z])
  by_cases h1:(2:Int)≤(rs.length:Int)
  ·
   rw [if_pos h1]
   by_cases h2:(rs.length:Int)≤12
   ·
    rw [if_neg (fun z=>z h2)]
    have z:2≤rs.length∧rs.length≤12:=⟨by omega,by omega⟩
    rw [if_pos z] at h hx
    rw [enumF_zero]
    refine rooms_loop rs 0 _ _ (fun e l1 l2=>h (by rw [e]; rfl)) fun k e=>?_
    rw [Nat.zero_add]
    exact hx (some k) (by rw [e]; rfl)
   ·
    rw [if_pos h2]
    exact ⟨.inr trivial,by decide,bad (by omega)⟩
  ·
   rw [if_neg h1]
   exact ⟨.inr trivial,by decide,bad (by omega)⟩
 | _ =>
  walk_at "w"
  exact ⟨.inr trivial,by decide,hx _ rfl⟩
def fs_look_at_asks_lam:FS:=fun ls post=>∃ (d:D) (n:Int),ls=[.d d,.d (.int n)]∧post (.d (.bl (numbB d n))) []
def m_look_at_asks_lam:W L:=(wCall fs_is_number_below (aVal (wVar 0) (aVal (wVar 1) aNil)))
theorem sat_look_at_asks_lam:∀ a d post,fs_look_at_asks_lam [.d a,.d d] post→m_look_at_asks_lam [.d a,.d d] (fun r _=>post r []):=by
 rintro a d post ⟨a',n,e,h⟩
 cases e
 unfold m_look_at_asks_lam
 walk_at "w"
 exact ⟨a,n,rfl,h⟩
def fs_is_ask:FS:=fun ls post=>∃ (d:D) (n:Int),ls=[.d d,.d (.fn "look_at_asks" (.int n))]∧AskA d∧post (.d (.bl (askB n d))) ls
def m_is_ask:W Fl:=(wSeq (wIf (wOr (wNot (wTest (wUn (opIsT "tuple") (wVar 0)))) (wTest (wBin opNe (wCallD opLen (aVal (wVar 0) aNil)) (wC (.int 4))))) (wRet (wC (.bl false))) wNext)
  (wSeq (wIf (wOr (wNot (wTest (wCall fs_is_name (aVal (wBin opIx (wVar 0) (wC (.int 0))) aNil)))) (wNot (wTest (wCall fs_is_ratio (aVal (wBin opIx (wVar 0) (wC (.int 3))) aNil))))) (wRet (wC (.bl false))) wNext)
  (wSeq (wIf (wOr (wNot (wTest (wCallFn fs_look_at_asks_lam "look_at_asks" 1 (wBin opIx (wVar 0) (wC (.int 1)))))) (wNot (wTest (wCallFn fs_look_at_asks_lam "look_at_asks" 1 (wBin opIx (wVar 0) (wC (.int 2))))))) (wRet (wC (.bl false))) wNext)
  (wRet (wAndV (wBin opNe (wBin opIx (wVar 0) (wC (.int 1))) (wBin opIx (wVar 0) (wC (.int 2)))) (wBin opGe (wBin opIx (wBin opIx (wVar 0) (wC (.int 3))) (wC (.int 0))) (wC (.int 0))))))))
theorem sat_is_ask:∀ ls post,ls.length=2→fs_is_ask ls post→m_is_ask (ls++List.replicate 0 .un) (okEnd ls post):=by
 rintro ls post - ⟨d,n,rfl,ha,h⟩
 unfold m_is_ask
 cases d with
 | tup xs =>
  match xs,ha,h with
  | [a,b,c,s],ha,h =>
   have hA:=ha _ rfl a rfl
   rw [askB4] at h
   have no:(nameB a && ratB s && (numbB b n && numbB c n) && (!(eqD b c) && posB s))=false→okEnd [.d (.tup [a,b,c,s]),.d (.fn "look_at_asks" (.int n))] post (.rt (.d (.bl false))) [.d (.tup [a,b,c,s]),.d (.fn "look_at_asks" (.int n))]:=fun e=>by
    rw [e] at h
    exact ⟨_,back_d (back_d back0),h⟩
   walk_at "w"
   refine ⟨_,rfl,hA,?_⟩
   cases e1:nameB a with
   | false =>
    walk_at "w"
    exact no (by rw [e1]; rfl)
   | true =>
    walk_at "w"
    refine ⟨_,rfl,?_⟩
    cases e2:ratB s with
    | false =>
     walk_at "w"
     exact no (by rw [e1,e2]; rfl)
    | true =>
     walk_at "w"
     refine ⟨b,n,rfl,?_⟩
     cases e3:numbB b n with
     | false =>
      walk_at "w"
      exact no (by rw [e1,e2,e3]; rfl)
     | true =>
      walk_at "w"
      refine ⟨c,n,rfl,?_⟩
      cases e4:numbB c n with
      | false =>
       walk_at "w"
       exact no (by rw [e1,e2,e3,e4]; rfl)
      | true =>
       obtain ⟨i,rfl⟩:=numbB_is e3
       obtain ⟨j,rfl⟩:=numbB_is e4
       obtain ⟨p,q,rfl⟩:=ratB_is e2
       rw [e1,e2,e3,e4,Bool.true_and,Bool.true_and,Bool.true_and] at h
       walk_at "w"
       have eq:eqD (.int i) (.int j)=decide (i=j):=rfl
       have ep:posB (.tup [.int p,.int q])=decide (0≤p):=rfl
       rw [eq,ep] at h
       by_cases hij:i=j
       ·
        rw [if_neg (fun z=>z hij)]
        rw [decide_eq_true hij] at h
        exact ⟨_,back_d (back_d back0),h⟩
       ·
        rw [if_pos hij]
        rw [decide_eq_false hij] at h
        exact ⟨_,back_d (back_d back0),h⟩
  | [],_,h=>walk_at "w"; exact ⟨_,back_d (back_d back0),h⟩
  | [_],_,h=>walk_at "w"; exact ⟨_,back_d (back_d back0),h⟩
  | [_,_],_,h=>walk_at "w"; exact ⟨_,back_d (back_d back0),h⟩
  | [_,_,_],_,h=>walk_at "w"; exact ⟨_,back_d (back_d back0),h⟩
  | a::b::c::s::e::r,_,h =>
   walk_at "w"
   rw [if_pos (by omega)]
   exact ⟨_,back_d (back_d back0),h⟩
 | _ =>
  walk_at "w"
  exact ⟨_,back_d (back_d back0),h⟩
def fs_look_at_each_ask:FSX:=fun ds post xp=>∃ (d:D) (n:Int),ds=[d,.fn "look_at_asks" (.int n)]∧AsksA d∧(badAsks n d=none→post (.d .non))∧∀ k,badAsks n d=some k→xp (NR "asks" (optN k))
def b_look_at_each_ask_0 (xp:Xc→Prop):W Fl:=(wSeq (wIf (wOr (wNot (wTest (wCall fs_is_ask (aVal (wVar 4) (aVal (wVar 1) aNil))))) (wTest (wDIn false 2 (wBin opIx (wVar 4) (wC (.int 0)))))) (wRaise "NoRing" ["part","number"] xp (aVal (wC (.str "asks")) (aVal (wVar 3) aNil))) wNext)
  (wDSet 2 (wBin opIx (wVar 4) (wC (.int 0))) (wC (.bl true))))
def m_look_at_each_ask (xp:Xc→Prop):W Fl:=(wSeq (wIf (wNot (wTest (wUn (opIsT "list") (wVar 0)))) (wRaise "NoRing" ["part","number"] xp (aVal (wC (.str "asks")) (aVal (wC .non) aNil))) wNext)
  (wSeq (wSet 2 (wDct []))
  (wFor (wEnum (wVar 0)) (tgTup [3,4]) (b_look_at_each_ask_0 xp))))
theorem asks_loop {xp:Xc→Prop} {d:D} {n:Int} {a:Addr} {post:Fl→Ev→Prop}:∀ (as:List D) (i:Nat) (zs:List Str) (l1 l2:L),(∀ b∈as,AskA b)→zs.length+as.length≤1000→(badAsk n as zs i=none→∀ l0 l1 l2,post .nx [.d d,.d (.fn "look_at_asks" (.int n)),l0,l1,l2]) →
  (∀ k,badAsk n as zs i=some k→xp (NR "asks" (.int (k:Int)))) →
  wForL (tgTup [3,4]) (b_look_at_each_ask_0 xp) (enumF i as) [.d d,.d (.fn "look_at_asks" (.int n)),.dic a (dkv zs),l1,l2] post
 | [],i,zs,l1,l2,_,_,h,_=>h rfl _ l1 l2
 | b::as,i,zs,l1,l2,ha,hl,h,hx=>by
  rw [List.length_cons] at hl
  rw [enumF_cons,wForL_cons]
  unfold b_look_at_each_ask_0
  walk_at "w"
  refine ⟨b,n,rfl,ha b List.mem_cons_self,?_⟩
  unfold badAsk at h hx
  cases e:askB n b with
  | false =>
   rw [e,if_neg (fun z=>by cases z.1)] at hx
   walk_at "w"
   exact ⟨.inr trivial,by decide,hx _ rfl⟩
  | true =>
   obtain ⟨x,p,q,s,rfl,hn,hs⟩:=askB_is e
   walk_at "w"
   rw [valD_dkv]
   by_cases hm:x∈zs
   ·
    rw [if_neg (fun z=>z.2 hm)] at hx
    rw [if_pos (decide_eq_true hm)]
    exact ⟨.inr trivial,by decide,hx _ rfl⟩
   ·
    rw [if_pos ⟨e,hm⟩] at h hx
    rw [if_neg (by simpa using hm)]
    walk_at "w"
    refine ⟨by rw [dkv_len]; exact Nat.lt_of_lt_of_le (show zs.length < 1000 by omega) (by decide),?_⟩
    rw [putD_dkv hm]
    have e2:badAsk n as (zs++[x]) (i+1)=badAsk n as (nmOf (.tup [.str x,.int p,.int q,s])::zs) (i+1):=badAsk_tk as _ _ _ fun y=>by simp [nmOf,or_comm]
    refine asks_loop as (i+1) (zs++[x]) _ _ (fun c hc=>ha c (List.mem_cons_of_mem _ hc)) (by rw [List.length_append,List.length_singleton]; omega) (fun z=>h (by rw [← e2]; exact z)) fun k z=>hx k (by rw [← e2]; exact z)
theorem sat_look_at_each_ask:∀ ds post xp,ds.length=2→fs_look_at_each_ask ds post xp→m_look_at_each_ask xp (ds.map .d++List.replicate 3 .un) (okX post):=by
 rintro ds post xp - ⟨d,n,rfl,ha,h,hx⟩
 unfold m_look_at_each_ask
 cases d with
 | lst as =>
  obtain ⟨hl,ha⟩:=ha as rfl
  simp only [badAsks] at h hx
  walk_at "w"
  intro a
  rw [enumF_zero]
  refine asks_loop as 0 [] _ _ ha (by rw [List.length_nil]; omega) (fun z l0 l1 l2=>h (by rw [z]; rfl)) fun k z=>hx (some k) (by rw [z]; rfl)
 | _ =>
  walk_at "w"
  exact ⟨.inr trivial,by decide,hx _ rfl⟩
def fs_look_at_asks:FSX:=fun ds post xp=>∃ (d:D) (n:Int),ds=[d,.int n]∧AsksA d∧(badAsks20 n d=none→post (.d .non))∧∀ k,badAsks20 n d=some k→xp (NR "asks" (optN k))
def m_look_at_asks (xp:Xc→Prop):W Fl:=(wSeq (wIf (wAnd (wTest (wUn (opIsT "list") (wVar 0))) (wTest (wBin opGt (wCallD opLen (aVal (wVar 0) aNil)) (wC (.int 20))))) (wRaise "NoRing" ["part","number"] xp (aVal (wC (.str "asks")) (aVal (wC .non) aNil))) wNext)
  (wDrop (wCallXL fs_look_at_each_ask xp "look_at_asks" 1 (wVar 0))))
theorem sat_look_at_asks:∀ ds post xp,ds.length=2→fs_look_at_asks ds post xp→m_look_at_asks xp (ds.map .d++List.replicate 0 .un) (okX post):=by
 rintro ds post xp - ⟨d,n,rfl,ha,h,hx⟩
 have nl:∀ k,noLs (NR "asks" (optN k)).ds=true:=fun k=>by cases k <;> rfl
 unfold m_look_at_asks
 cases d with
 | lst as =>
  obtain ⟨hl,_⟩:=ha as rfl
  simp only [badAsks20] at h hx
  walk_at "w"
  by_cases h20:20 < as.length
  ·
   rw [if_pos h20] at hx
   rw [if_pos (by omega)]
   exact ⟨.inr trivial,by decide,hx _ rfl⟩
  ·
   rw [if_neg h20] at h hx
   rw [if_neg (by omega)]
   refine ⟨_,n,rfl,ha,fun e=>⟨rfl,h e⟩,fun k e=>⟨nl k,hx k e⟩⟩
 | _ =>
  walk_at "w"
  refine ⟨_,n,rfl,ha,fun e=>⟨rfl,h e⟩,fun k e=>⟨nl k,hx k e⟩⟩
def fs_look_at_ring:FSX:=fun ds post xp=>∃ d:D,ds=[d]∧(∀ r a,d=.tup [r,a]→(∀ rs,r=.lst rs→rs.length≤1000)∧AsksA a)∧(badRing d=none→post (.d .non))∧∀ p k,badRing d=some (p,k)→xp (NR p (optN k))
def m_look_at_ring (xp:Xc→Prop):W Fl:=(wSeq (wIf (wOr (wNot (wTest (wUn (opIsT "tuple") (wVar 0)))) (wTest (wBin opNe (wCallD opLen (aVal (wVar 0) aNil)) (wC (.int 2))))) (wRaise "NoRing" ["part","number"] xp (aVal (wC (.str "ring")) (aVal (wC .non) aNil))) wNext)
  (wSeq (wDrop (wCallX fs_look_at_rooms xp (aVal (wBin opIx (wVar 0) (wC (.int 0))) aNil)))
  (wDrop (wCallX fs_look_at_asks xp (aVal (wBin opIx (wVar 0) (wC (.int 1))) (aVal (wFrz (wCallD opLen (aVal (wBin opIx (wVar 0) (wC (.int 0))) aNil))) aNil))))))
theorem sat_look_at_ring:∀ ds post xp,ds.length=1→fs_look_at_ring ds post xp→m_look_at_ring xp (ds.map .d++List.replicate 0 .un) (okX post):=by
 rintro ds post xp - ⟨d,rfl,hA,h,hx⟩
 unfold m_look_at_ring
 cases d with
 | tup xs =>
  match xs,hA,h,hx with
  | [r,a],hA,h,hx =>
   obtain ⟨hr,ha⟩:=hA r a rfl
   simp only [badRing] at h hx
   walk_at "w"
   refine ⟨r,rfl,hr,fun e=>?_,fun k e=>hx _ _ (by rw [e])⟩
   rw [e] at h hx
   have hl:∃ rs,r=.lst rs:=by
    cases r with
    | lst rs=>exact ⟨rs,rfl⟩
    | _=>cases e
   obtain ⟨rs,rfl⟩:=hl
   walk_at "w"
   refine ⟨a,_,rfl,ha,fun e=>h (by simp only [lenD,e,Option.map_none]),fun k e=>hx _ _ (by simp only [lenD,e,Option.map_some])⟩
  | [],_,_,hx=>walk_at "w"; exact ⟨.inr trivial,by decide,hx _ _ rfl⟩
  | [_],_,_,hx=>walk_at "w"; exact ⟨.inr trivial,by decide,hx _ _ rfl⟩
  | a::b::c::r,_,_,hx =>
   walk_at "w"
   rw [if_pos (by omega)]
   exact ⟨.inr trivial,by decide,hx _ _ rfl⟩
 | _ =>
  walk_at "w"
  exact ⟨.inr trivial,by decide,hx _ _ rfl⟩
def fs__law_begun:FS:=fun ls post=>∃ (ns:List Int) (k:Int),ls=[.d (.lst (ns.map .int)),.d (.int k)]∧0≤k∧k≤100∧∀ a xs,StOk xs→post (.own a xs) ls
def m__law_begun:W Fl:=(wSeq (wSet 2 (wC (.int 0)))
  (wSeq (wIf (wTest (wBin opLt (wVar 1) (wCallD opLen (aVal (wVar 0) aNil)))) (wSet 2 (wBin opIx (wVar 0) (wVar 1))) wNext)
  (wRet (wLst (aVal (wVar 2) (aVal (wBin opMod (wBin opAdd (wBin opAdd (wBin opMod (wVar 2) (wC (.int 2147483587))) (wBin opMulI (wBin opMulI (wC (.int 48271)) (wVar 1)) (wVar 1))) (wC (.int 13))) (wC (.int 2147483587))) (aVal (wBin opGe (wVar 2) (wBin opPow (wC (.int 10)) (wC (.int 18)))) aNil)))))))
theorem sat__law_begun:∀ ls post,ls.length=2→fs__law_begun ls post→m__law_begun (ls++List.replicate 1 .un) (okEnd ls post):=by
 rintro ls post - ⟨ns,k,rfl,h0,h1,h⟩
 unfold m__law_begun
 have fin:∀ (c:Int) (ρ:Ev) (e:ρ=[.d (.lst (ns.map .int)),.d (.int k),.d (.int c)]),∀ a:Addr,okEnd [.d (.lst (ns.map .int)),.d (.int k)] post (.rt (.own a [.int c,.int ((c.fmod 2147483587+48271*k*k+13).fmod 2147483587),.bl (decide ((10:Int) ^ 18≤c))])) ρ:=fun c ρ e a=>by
  refine ⟨_,back_d (back_d back0),h a _ ⟨_,_,_,rfl,?_,?_⟩⟩
  ·
   rw [Int.fmod_eq_emod_of_nonneg _ (by decide)]; exact Int.emod_nonneg _ (by decide)
  ·
   rw [Int.fmod_eq_emod_of_nonneg _ (by decide)]
   have:=Int.emod_lt_of_pos (c.fmod 2147483587+48271*k*k+13) (b:=2147483587) (by decide)
   omega
 have hb1:bitsOk 48271:=bits_small (by decide)
 have hb2:bitsOk k:=bits_small (Nat.lt_of_le_of_lt (show k.natAbs≤100 by omega) (by decide))
 have hb3:bitsOk (48271*k):=bits_small (Nat.lt_of_le_of_lt (show (48271*k).natAbs≤4827100 by omega) (by decide))
 walk_at "w"
 try rw [List.length_map]
 split
 ·
  rename_i hk
  have hk:k < (ns.length:Int):=by simpa using hk
  have hi:k.toNat < ns.length:=by omega
  refine ⟨.int ns[k.toNat],atI_of h0 (by rw [List.getElem?_map,List.getElem?_eq_getElem hi]; rfl),?_⟩
  exact ⟨by decide,hb1,hb2,hb3,hb2,by decide,by decide,by decide,by decide,by decide,fin _ _ rfl⟩
 ·
  exact ⟨by decide,hb1,hb2,hb3,hb2,by decide,by decide,by decide,by decide,by decide,fin _ _ rfl⟩
def fs__law_take:FS:=fun ls post=>∃ (a:Addr) (xs:List D) (m:Int),ls=[.own a xs,.d (.int m)]∧StOk xs∧0 < m∧m≤10 ^ 60∧∀ (r:Int) (ys:List D),StOk ys→0≤r→r < m→post (.d (.int r)) [.own a ys,.d (.int m)]
def b__law_take_0:W Fl:=(wSeq (wSetV 0 (wC (.int 1)) (wBin opMod (wBin opAdd (wBin opMulI (wIsOwn 0 (wIxV 0 (wC (.int 1))) (wBin opIx (wVar 0) (wC (.int 1)))) (wC (.int 39373))) (wC (.int 17))) (wC (.int 2147483647))))
  (wSet 3 (wFrz (wBin opAdd (wBin opMulI (wVar 3) (wC (.int 2147483629))) (wBin opMod (wBin opMulI (wIsOwn 0 (wIxV 0 (wC (.int 1))) (wBin opIx (wVar 0) (wC (.int 1)))) (wIsOwn 0 (wIxV 0 (wC (.int 1))) (wBin opIx (wVar 0) (wC (.int 1))))) (wC (.int 2147483629)))))))
def m__law_take:W Fl:=(wSeq (wIf (wTest (wIsOwn 0 (wIxV 0 (wC (.int 2))) (wBin opIx (wVar 0) (wC (.int 2))))) (wSeq (wSet 2 (wBin opMod (wIsOwn 0 (wIxV 0 (wC (.int 0))) (wBin opIx (wVar 0) (wC (.int 0)))) (wVar 1)))
  (wSeq (wSetV 0 (wC (.int 0)) (wBin opDiv (wIsOwn 0 (wIxV 0 (wC (.int 0))) (wBin opIx (wVar 0) (wC (.int 0)))) (wVar 1)))
  (wSeq (wSetV 0 (wC (.int 2)) (wBin opGt (wIsOwn 0 (wIxV 0 (wC (.int 0))) (wBin opIx (wVar 0) (wC (.int 0)))) (wC (.int 0))))
  (wRet (wMove 2))))) wNext)
  (wSeq (wSet 3 (wC (.int 0)))
  (wSeq (wFor (wRng1 (wBin opAdd (wC (.int 1)) (wBin opMulI (wC (.int 8)) (wCallD opInt (aVal (wBin opGt (wVar 1) (wBin opPow (wC (.int 10)) (wC (.int 6)))) aNil))))) (tgName 4) b__law_take_0)
  (wRet (wBin opMod (wBin opDiv (wVar 3) (wC (.int 64))) (wVar 1))))))
theorem take_loop {a:Addr} {c:Int} {m x2:L} {post:Fl→Ev→Prop}:∀ (items:List D) (sd dr:Int) (j:Nat) (x4:L),j+items.length≤100→0≤sd→sd < 2147483647→0≤dr→dr < 2 ^ (40*j) →
  (∀ sd' dr' x',0≤sd'→sd' < 2147483647→0≤dr'→post .nx [.own a [.int c,.int sd',.bl false],m,x2,.d (.int dr'),x']) →
  wForL (tgName 4) b__law_take_0 items [.own a [.int c,.int sd,.bl false],m,x2,.d (.int dr),x4] post
 | [],sd,dr,j,x4,_,h0,h1,h2,h3,h=>h sd dr x4 h0 h1 h2
 | y::items,sd,dr,j,x4,hl,h0,h1,h2,h3,h=>by
  unfold wForL b__law_take_0
  walk_at "w"
  obtain ⟨r0,r1⟩:=fmod_rng (sd*39373+17) (m:=2147483647) (by decide)
  generalize (sd*39373+17).fmod 2147483647=s' at r0 r1 ⊢
  obtain ⟨q0,q1⟩:=fmod_rng (s'*s') (m:=2147483629) (by decide)
  generalize (s'*s').fmod 2147483629=t' at q0 q1 ⊢
  have hl':j+(items.length+1)≤100:=hl
  have b1:bitsOk sd:=bits_le (n:=40) h0 (by omega) (by decide)
  have b2:bitsOk s':=bits_le (n:=40) r0 (by omega) (by decide)
  have b3:bitsOk dr:=bits_le (n:=40*j) h2 h3 (by omega)
  have b4:bitsOk 39373:=bits_small (by decide)
  have b5:bitsOk 2147483629:=bits_small (by decide)
  refine ⟨b1,b4,by decide,b3,b5,b2,b2,by decide,?_⟩
  refine take_loop items s' (dr*2147483629+t') (j+1) _ (by omega) r0 r1 (by omega) ?_ h
  have e:(2:Int) ^ (40*(j+1))=2 ^ (40*j)*1099511627776:=by
   rw [Nat.mul_succ,Int.pow_add]; rfl
  omega
theorem sat__law_take:∀ ls post,ls.length=2→fs__law_take ls post→m__law_take (ls++List.replicate 3 .un) (okEnd ls post):=by
 rintro ls post - ⟨a,xs,m,rfl,⟨c,sd,t,rfl,h0,h1⟩,hm,hM,h⟩
 unfold m__law_take
 have hm0:m≠0:=by omega
 have hmz:=small9000 (by omega) hM
 cases t with
 | true =>
  walk_at "w"
  obtain ⟨r0,r1⟩:=fmod_rng c hm
  exact ⟨hm0,hm0,hmz,_,back_own List.mem_cons_self (back_d back0),h _ _ ⟨_,_,_,rfl,h0,h1⟩ r0 r1⟩
 | false =>
  walk_at "w"
  refine ⟨by decide,by decide,by decide,bits_small (by decide),bits_small (by split <;> decide),⟨by split <;> decide,by split <;> decide⟩,?_⟩
  refine take_loop (c:=c) _ sd 0 0 _ (by simp only [rngD,List.length_map,List.length_range]; split <;> decide) h0 h1 (by decide) (by decide) fun sd' dr' x' g0 g1 g2=>?_
  walk_at "w"
  obtain ⟨r0,r1⟩:=fmod_rng (dr'.fdiv 64) hm
  exact ⟨by decide,by decide,hm0,_,back_own List.mem_cons_self (back_d back0),h _ _ ⟨_,_,_,rfl,g0,g1⟩ r0 r1⟩
def fs__law_names:FS:=fun ls post=>∃ (a:Addr) (xs:List D) (many:Nat),ls=[.own a xs,.d (.int many)]∧StOk xs∧many≤26 ∧
 ∀ (zs:List Str) (c:Addr) (ys:List D),StOk ys→zs.length=many→(∀ z∈zs,NmOk z)→zs.Nodup→post (.own c (zs.map .str)) [.own a ys,.d (.int many)]
def b__law_names_0:W L:=(wBin opAdd (wBin opAdd (wSl2 (wVar 1) none (some (wVar 2))) (wBin opIx (wVar 3) (wBin opMod (wBin opAdd (wVar 4) (wVar 0)) (wC (.int 26))))) (wSl2 (wVar 1) (some (wBin opAdd (wVar 2) (wC (.int 1)))) none))
def c__law_names_3:W Fl:=(wRet (wComp 1 [3,4,2,5] (wRng1 (wVar 1)) (tgName 0) wTrue b__law_names_0))
def c__law_names_2:W Fl:=(wSeq (wSet 5 (wFrz (wCallB fs__law_take 0 0 (aVar 0 (aVal (wC (.int 26)) aNil)))))
  c__law_names_3)
def b__law_names_1:W L:=(wBin opIx (wVar 1) (wCallB fs__law_take 0 2 (aVar 2 (aVal (wC (.int 26)) aNil))))
def c__law_names_1:W Fl:=(wSeq (wSet 4 (wFrz (wCallB fs__law_take 0 0 (aVar 0 (aVal (wFrz (wCallD opLen (aVal (wVar 3) aNil))) aNil)))))
  c__law_names_2)
def c__law_names_0:W Fl:=(wSeq (wSet 3 (wFrz (wJoin "" (wComp 1 [2,0] (wRng1 (wBin opAdd (wC (.int 1)) (wCallB fs__law_take 0 0 (aVar 0 (aVal (wC (.int 8)) aNil))))) (tgName 0) wTrue b__law_names_1))))
  c__law_names_1)
def m__law_names:W Fl:=(wSeq (wSet 2 (wC (.str "abcdefghijklmnopqrstuvwxyz")))
  c__law_names_0)
theorem sat__law_names:∀ ls post,ls.length=2→fs__law_names ls post→m__law_names (ls++List.replicate 4 .un) (okEnd ls post):=by
 rintro ls post - ⟨a,xs,many,rfl,hx,hm,h⟩
 unfold m__law_names
 walk_at "w"
 unfold c__law_names_0
 walk_at "w"
 refine ⟨a,xs,8,rfl,hx,by decide,by decide,fun r ys hy r0 r1=>⟨ys,rfl,?_⟩⟩
 walk_at "w"
 refine ⟨⟨by omega,by omega⟩,?_⟩
 rw [rngD_map]
 refine ⟨by rw [List.length_map,List.length_range]; exact Nat.le_trans (show (1+r).toNat≤8 by omega) (by decide),?_⟩
 refine comp_inv _ (fun j ρ acc=>∃ (l:L) (ys:List D) (cs:List Nat),ρ=[l,.d (.str lettersS),.own a ys]∧StOk ys∧acc=cs.map (fun c=>D.str ⟨#[c]⟩)∧cs.length=j∧∀ c∈cs,LetterC c) _ _ ⟨_,ys,[],rfl,hy,rfl,rfl,fun c hc=>by simp at hc⟩ ?_ ?_
 ·
  rintro j x ρ acc hx ⟨l,ys,cs,rfl,hy,rfl,hl,hc⟩ Q hQ
  unfold wTrue b__law_names_1
  walk_at "w"
  refine ⟨a,ys,26,rfl,hy,by decide,by decide,fun q ws hw q0 q1=>⟨ws,rfl,by decide,_,letters_at q0 q1,?_⟩⟩
  refine hQ _ _ ⟨_,ws,cs++[q.toNat+97],rfl,hw,by simp,by simp [hl],fun c hm=>?_⟩
  rcases List.mem_append.mp hm with hm | hm
  ·
   exact hc c hm
  ·
   rw [List.mem_singleton.mp hm]
   unfold LetterC
   omega
 ·
  rintro ρ acc ⟨l,ys,cs,rfl,hy,rfl,hl,hc⟩
  rw [List.length_map,List.length_range] at hl
  walk_at "w"
  intro aa
  refine ⟨cs.map fun c=>⟨#[c]⟩,by simp,by rw [sum_ones,List.length_map]; show cs.length+cs.length*0≤_; omega,?_⟩
  have hb:NmOk (Txt.join "" (cs.map fun c=>(⟨#[c]⟩:Str))):=by
   refine ⟨?_,?_,?_⟩
   ·
    rw [join_ones_]; omega
   ·
    rw [join_ones_]; omega
   ·
    rw [join_ones_]; exact hc
  generalize Txt.join "" (cs.map fun c=>(⟨#[c]⟩:Str))=base at hb ⊢
  have hbl:=len_list base
  have hb1:=hb.lo
  have hb2:=hb.hi
  unfold c__law_names_1
  walk_at "w"
  refine ⟨Nat.le_trans (show base.length≤8 by omega) (by decide),a,ys,base.length,rfl,hy,by omega,by omega,fun p ws hw p0 p1=>⟨ws,rfl,?_⟩⟩
  unfold c__law_names_2
  walk_at "w"
  refine ⟨a,ws,26,rfl,hw,by decide,by decide,fun t vs hv t0 t1=>⟨vs,rfl,?_⟩⟩
  unfold c__law_names_3
  walk_at "w"
  refine ⟨⟨by omega,by omega⟩,?_⟩
  rw [rngD_map]
  refine ⟨by rw [List.length_map,List.length_range]; exact Nat.le_trans (show ((many:Int)).toNat≤26 by omega) (by decide),?_⟩
  refine comp_map (h:=fun k=>D.str (nameAt base p.toNat t.toNat k)) _ _ _ (fun k hk Q q=>?_) fun l'=>?_
  ·
   have hk:k < many:=by have:=List.mem_range.mp hk; omega
   unfold b__law_names_0
   walk_at "w"
   refine ⟨Nat.le_trans (show base.length≤8 by omega) (by decide),by decide,by decide,_,letters_at (i:=(t+(k:Int)).fmod 26) (fmod_rng _ (by decide)).1 (fmod_rng _ (by decide)).2,?_⟩
   have e1:=slice_to (x:=base) p0 (by omega)
   have e2:=slice_from (x:=base) (i:=p+1) (by omega) (by omega)
   have l1:(Txt.slice base none (some p)).length≤8:=by rw [len_list,e1,List.length_take]; omega
   have l2:(Txt.slice base (some (p+1)) none).length≤8:=by rw [len_list,e2,List.length_drop]; omega
   have e3:((t+(k:Int)).fmod 26).toNat=(t.toNat+k) % 26:=by
    rw [Int.fmod_eq_emod_of_nonneg _ (by decide)]
    omega
   have e4:Txt.slice base none (some p)++(⟨#[((t+(k:Int)).fmod 26).toNat+97]⟩:Str)++Txt.slice base (some (p+1)) none=nameAt base p.toNat t.toNat k:=by
    apply str_ext
    rw [cat_list,cat_list,e1,e2,e3]
    have:(p+1).toNat=p.toNat+1:=by omega
    simp [L2.nameAt,this]
   have one:∀ c:Nat,(⟨#[c]⟩:Str).length=1:=fun _=>rfl
   have lc:(Txt.slice base none (some p)++(⟨#[((t+(k:Int)).fmod 26).toNat+97]⟩:Str)).length≤9:=by
    rw [len_list,cat_list,List.length_append,← len_list,← len_list,one]; omega
   refine ⟨Nat.le_trans (show _≤9 by rw [one]; omega) (by decide),Nat.le_trans (show base.length≤8 by omega) (by decide),Nat.le_trans (Nat.add_le_add lc l2) (by decide),?_⟩
   rw [e4]
   exact q
  ·
   walk_at "w"
   intro c
   refine ⟨_,back_own (ys:=vs) (by simp) (back_d back0),?_⟩
   have e:List.map (fun k=>D.str (nameAt base p.toNat t.toNat k)) (List.range ((many:Int)).toNat)=((List.range many).map fun k=>nameAt base p.toNat t.toNat k).map D.str:=by
    rw [List.map_map,Int.toNat_natCast]
    rfl
   rw [e]
   refine h _ c vs hv (by simp) (fun z hz=>?_) (nodup_map List.nodup_range fun x hx y hy=>?_)
   ·
    obtain ⟨k,_,rfl⟩:=List.mem_map.mp hz
    exact nameAt_ok hb (by omega)
   ·
    exact nameAt_inj (by omega) (by have:=List.mem_range.mp hx; omega) (by have:=List.mem_range.mp hy; omega)
def fs__law_low:FS:=fun ls post=>∃ t b:Int,ls=[.d (.int t),.d (.int b)]∧b≠0∧b.natAbs < 2 ^ 9000∧post (.d (frD (Rat.divInt t b))) ls
def b__law_low_0:W Fl:=(wPar 2 3 (wBin opMod (wVar 3) (wVar 2)) (wVar 2))
def m__law_low:W Fl:=(wSeq (wSet 2 (wFrz (wCallD opAbs (aVal (wVar 0) aNil))))
  (wSeq (wSet 3 (wFrz (wCallD opAbs (aVal (wVar 1) aNil))))
  (wSeq (wWhile (wTest (wBin opNe (wVar 2) (wC (.int 0)))) b__law_low_0)
  (wSeq (wIf (wTest (wBin opLt (wVar 1) (wC (.int 0)))) (wSet 3 (wBin opSub (wC (.int 0)) (wVar 3))) wNext)
  (wRet (wTup (aVal (wBin opDiv (wVar 0) (wVar 3)) (aVal (wBin opDiv (wVar 1) (wVar 3)) aNil))))))))
theorem sat__law_low:∀ ls post,ls.length=2→fs__law_low ls post→m__law_low (ls++List.replicate 2 .un) (okEnd ls post):=by
 rintro ls post - ⟨t,b,rfl,hb,hz,h⟩
 unfold m__law_low
 walk_at "w"
 have h1:=share_ne (t:=t) hb
 have h2:=Nat.lt_of_le_of_lt (share_le (t:=t) hb) hz
 have fin:∀ {g:Int} {ρ:Ev},g=shareOf t b→g≠0∧g.natAbs < 2 ^ 9000∧g≠0∧g.natAbs < 2 ^ 9000∧2≤sizeLine∧okEnd [.d (.int t),.d (.int b)] post (.rt (.d (.tup [.int (t.fdiv g),.int (b.fdiv g)]))) ρ:=fun {g ρ} e=>by
  have e1:g≠0:=by rw [e]; exact h1
  have e2:g.natAbs < 2 ^ 9000:=by rw [e]; exact h2
  refine ⟨e1,e2,e1,e2,by decide,_,back_d (back_d back0),?_⟩
  rw [low_pair hb e]
  exact h
 refine ⟨fun n ρ=>∃ x y:Int,ρ=[.d (.int t),.d (.int b),.d (.int x),.d (.int y)]∧0≤x∧0≤y∧Int.gcd x y=Int.gcd t b∧n=x.natAbs,⟨_,_,_,rfl,by split <;> omega,by split <;> omega,?_,rfl⟩,?_⟩
 ·
  have e1:(if t < 0 then -t else t)=(t.natAbs:Int):=by split <;> omega
  have e2:(if b < 0 then -b else b)=(b.natAbs:Int):=by split <;> omega
  rw [e1,e2]
  simp [Int.gcd]
 ·
  rintro n ρ ⟨x,y,rfl,x0,y0,hg,rfl⟩
  unfold b__law_low_0
  walk_at "w"
  split
  ·
   rename_i hx
   have hx:x≠0:=by simpa using hx
   refine ⟨hx,_,natAbs_fmod_lt y hx,_,_,rfl,(fmod_rng y (by omega)).1,x0,?_,rfl⟩
   rw [Int.gcd_comm,gcd_fmod,Int.gcd_comm]
   exact hg
  ·
   rename_i hx
   have hx:x=0:=by simpa using hx
   subst hx
   have hy:y=(Int.gcd t b:Int):=by rw [← hg,Int.gcd_zero_left]; omega
   split
   ·
    rename_i hlt
    exact fin (by simp [shareOf,hlt,hy])
   ·
    rename_i hlt
    exact fin (by simp [shareOf,hlt,hy])
def fs__law_amount:FS:=fun ls post=>∃ (a:Addr) (xs:List D) (least kind:Int),ls=[.own a xs,.d (.int least),.d (.int kind)]∧StOk xs∧0≤least∧least≤1∧0≤kind∧kind < 5 ∧
 ∀ (q:Rat) (ys:List D),StOk ys→0≤q→(least=1→0 < q)→RB 60 q→post (.d (frD q)) [.own a ys,.d (.int least),.d (.int kind)]
def m__law_amount:W Fl:=(wSeq (wSet 3 (wFrz (wBin opAdd (wC (.int 1)) (wCallB fs__law_take 0 0 (aVar 0 (aVal (wBin opIx (wLst (aVal (wC (.int 1)) (aVal (wC (.int 1)) (aVal (wC (.int 4)) (aVal (wC (.int 12)) (aVal (wC (.int 12)) aNil)))))) (wVar 2)) aNil))))))
  (wSeq (wSet 4 (wFrz (wBin opAdd (wVar 1) (wCallB fs__law_take 0 0 (aVar 0 (aVal (wBin opIx (wLst (aVal (wC (.int 3)) (aVal (wC (.int 10)) (aVal (wC (.int 10)) (aVal (wC (.int 40)) (aVal (wBin opPow (wC (.int 10)) (wC (.int 12))) aNil)))))) (wVar 2)) aNil))))))
  (wRet (wCall fs__law_low (aVal (wVar 4) (aVal (wVar 3) aNil))))))
theorem amount_ok {t b:Int} (h0:0≤t) (h1:t < 2 ^ 59) (h2:0 < b) (h3:b < 2 ^ 59):0≤Rat.divInt t b∧(0 < t→0 < Rat.divInt t b)∧RB 60 (Rat.divInt t b):=by
 have e:=Rat.divInt_nonneg (a:=t) (b:=b) h0 (by omega)
 refine ⟨e,fun ht=>?_,RB.of_divInt (by omega) ?_ ?_⟩
 ·
  refine Rat.lt_of_le_of_ne e fun z=>?_
  have:Rat.divInt 0 1=Rat.divInt t b:=by rw [← z]; rfl
  rw [Rat.divInt_eq_divInt_iff (by decide) (by omega)] at this
  omega
 ·
  have:(2:Int) ^ 59=((2 ^ 59:Nat):Int):=by decide
  have:(2:Nat) ^ 59 < 2 ^ 60:=by decide
  omega
 ·
  have:(2:Int) ^ 59=((2 ^ 59:Nat):Int):=by decide
  have:(2:Nat) ^ 59 < 2 ^ 60:=by decide
  omega
theorem sat__law_amount:∀ ls post,ls.length=3→fs__law_amount ls post→m__law_amount (ls++List.replicate 2 .un) (okEnd ls post):=by
 rintro ls post - ⟨a,xs,least,kind,rfl,hx,l0,l1,k0,k1,h⟩
 have hk:kind=0∨kind=1∨kind=2∨kind=3∨kind=4:=by omega
 have fin:∀ (ys:List D) (r s:Int) (ρ:Ev),StOk ys→0≤r→r < 12→0≤s→s < 10 ^ 12→.own a ys∈ρ→fs__law_low [.d (.int (least+s)),.d (.int (1+r))] fun r' _=>okEnd [.own a xs,.d (.int least),.d (.int kind)] post (.rt r') ρ:=by
  intro ys r s ρ hy r0 r1 s0 s1 hm
  obtain ⟨a1,a2,a3⟩:=amount_ok (t:=least+s) (b:=1+r) (by omega) (by omega) (by omega) (by omega)
  exact ⟨_,_,rfl,by omega,small9000 (by omega) (by omega),_,back_own hm (back_d (back_d back0)),h _ ys hy a1 (fun e=>a2 (by omega)) a3⟩
 unfold m__law_amount
 rcases hk with rfl | rfl | rfl | rfl | rfl
 all_goals
  walk_at "w"
  refine ⟨by decide,fun _=>?_⟩
  refine ⟨a,xs,_,rfl,hx,by decide,by decide,fun r ys hy r0 r1=>⟨ys,rfl,?_⟩⟩
  walk_at "w"
  refine ⟨by decide,by decide,by decide,by decide,fun _=>?_⟩
  refine ⟨a,ys,_,rfl,hy,by decide,by decide,fun s zs hz s0 s1=>⟨zs,rfl,?_⟩⟩
  walk_at "w"
  exact fin zs r s _ hz r0 (by omega) s0 (Int.lt_of_lt_of_le s1 (by decide)) (by simp)
def fs__law_rooms:FS:=fun ls post=>∃ (a:Addr) (xs:List D) (n:Nat) (kind:Int),ls=[.own a xs,.d (.int n),.d (.int kind)]∧StOk xs∧1≤n∧n≤1000∧0≤kind∧kind < 5 ∧
 ∀ (qs:List Rat) (c:Addr) (ys:List D),StOk ys→qs.length=n→(∀ q∈qs,0 < q∧RB 60 q)→post (.own c (qs.map frD)) [.own a ys,.d (.int n),.d (.int kind)]
def b__law_rooms_0:W Fl:=(wSeq (wSet 6 (wFrz (wCallB fs__law_amount 0 0 (aVar 0 (aVal (wC (.int 1)) (aVal (wVar 2) aNil))))))
  (wDrop (wApp 5 (wBin opIx (wLst (aVal (wVar 4) (aVal (wVar 6) aNil))) (wCallD opInt (aVal (wBin opEq (wVar 3) (wC (.int 2))) aNil))))))
def c__law_rooms_4:W Fl:=(wRet (wMove 5))
def c__law_rooms_3:W Fl:=(wSeq (wWhile (wTest (wBin opLt (wIsOwn 5 (wLenV 5) (wCallD opLen (aVal (wVar 5) aNil))) (wVar 1))) b__law_rooms_0)
  c__law_rooms_4)
def c__law_rooms_2:W Fl:=(wSeq (wSet 5 (wLst (aVal (wVar 4) aNil)))
  c__law_rooms_3)
def c__law_rooms_1:W Fl:=(wSeq (wIf (wTest (wBin opEq (wVar 3) (wC (.int 0)))) (wSet 4 (wTup (aVal (wC (.int 1)) (aVal (wC (.int 1)) aNil)))) wNext)
  c__law_rooms_2)
def c__law_rooms_0:W Fl:=(wSeq (wSet 4 (wFrz (wCallB fs__law_amount 0 0 (aVar 0 (aVal (wC (.int 1)) (aVal (wVar 2) aNil))))))
  c__law_rooms_1)
def m__law_rooms:W Fl:=(wSeq (wSet 3 (wFrz (wCallB fs__law_take 0 0 (aVar 0 (aVal (wC (.int 3)) aNil)))))
  c__law_rooms_0)
theorem sat__law_rooms:∀ ls post,ls.length=3→fs__law_rooms ls post→m__law_rooms (ls++List.replicate 4 .un) (okEnd ls post):=by
 rintro ls post - ⟨a,xs,n,kind,rfl,hx,n1,n2,k0,k1,h⟩
 have one:frD 1=.tup [.int 1,.int 1]:=rfl
 have rest:∀ (alike:Int) (p:Rat) (ys:List D),StOk ys→0 < p→RB 60 p →
   c__law_rooms_2 [.own a ys,.d (.int n),.d (.int kind),.d (.int alike),.d (frD p),.un,.un] (okEnd [.own a xs,.d (.int n),.d (.int kind)] post):=by
  intro alike p ys hy hp hb
  unfold c__law_rooms_2
  walk_at "w"
  refine ⟨by decide,fun c=>?_⟩
  unfold c__law_rooms_3
  walk_at "w"
  refine ⟨fun m ρ=>∃ (qs:List Rat) (zs:List D) (l:L),ρ=[.own a zs,.d (.int n),.d (.int kind),.d (.int alike),.d (frD p),.own c (qs.map frD),l]∧StOk zs∧qs.length≤n∧m=n - qs.length∧∀ q∈qs,0 < q∧RB 60 q,⟨_,[p],ys,_,rfl,hy,n1,rfl,by intro q hq; rw [List.mem_singleton.mp hq]; exact ⟨hp,hb⟩⟩,?_⟩
  rintro m ρ ⟨qs,zs,l,rfl,hz,hl,rfl,hq⟩
  walk_at "w"
  try rw [List.length_map]
  split
  ·
   rename_i hlt
   unfold b__law_rooms_0
   walk_at "w"
   refine ⟨a,zs,1,kind,rfl,hz,by decide,by decide,k0,k1,fun q ws hw q0 q1 qb=>⟨ws,rfl,?_⟩⟩
   walk_at "w"
   have hs:qs.length < sizeLine:=by exact Nat.lt_of_le_of_lt (show qs.length≤1000 by omega) (by decide)
   have more:∀ q':Rat,0 < q'→RB 60 q'→∃ m,m < n - qs.length∧∃ (qs':List Rat) (zs:List D) (l:L),[L.own a ws,.d (.int n),.d (.int kind),.d (.int alike),.d (frD p),.own c (qs.map frD++[frD q']),.d (frD q)]=[.own a zs,.d (.int n),.d (.int kind),.d (.int alike),.d (frD p),.own c (qs'.map frD),l]∧StOk zs∧qs'.length≤n∧m=n - qs'.length∧∀ q∈qs',0 < q∧RB 60 q:=by
    intro q' p0 pb
    refine ⟨n - (qs++[q']).length,by rw [List.length_append]; simp only [List.length_singleton]; omega,qs++[q'],ws,.d (frD q),by rw [List.map_append]; rfl,hw,by rw [List.length_append]; simp only [List.length_singleton]; omega,rfl,fun z hz=>?_⟩
    rcases List.mem_append.mp hz with hz | hz
    ·
     exact hq z hz
    ·
     rw [List.mem_singleton.mp hz]; exact ⟨p0,pb⟩
   refine ⟨by decide,fun _=>?_⟩
   by_cases h2:alike=2
   ·
    refine ⟨frD q,?_,hs,more q (q1 rfl) qb⟩
    simp [h2,atI_1]
   ·
    refine ⟨frD p,?_,hs,more p hp hb⟩
    simp [h2,atI_0]
  ·
   have e:qs.length=n:=by omega
   unfold c__law_rooms_4
   walk_at "w"
   exact ⟨_,back_own (by simp) (back_d (back_d back0)),h qs c zs hz e hq⟩
 unfold m__law_rooms
 walk_at "w"
 refine ⟨a,xs,3,rfl,hx,by decide,by decide,fun r ys hy r0 r1=>⟨ys,rfl,?_⟩⟩
 unfold c__law_rooms_0
 walk_at "w"
 refine ⟨a,ys,1,kind,rfl,hy,by decide,by decide,k0,k1,fun q zs hz q0 q1 qb=>⟨zs,rfl,?_⟩⟩
 unfold c__law_rooms_1
 walk_at "w"
 split
 ·
  exact ⟨by decide,rest r 1 zs hz (by decide) ⟨by decide,by decide⟩⟩
 ·
  exact rest r q zs hz (q1 rfl) qb
def fs__law_ends:FS:=fun ls post=>∃ (a:Addr) (xs:List D) (shape k:Int) (n:Nat),ls=[.own a xs,.d (.int shape),.d (.int n),.d (.int k)]∧StOk xs∧2≤n∧n≤1000∧0≤k∧k≤1000 ∧
 ∀ (i j:Nat) (ys:List D),StOk ys→i < n→j < n→i≠j→post (.d (.tup [.int i,.int j])) [.own a ys,.d (.int shape),.d (.int n),.d (.int k)]
def m__law_ends:W Fl:=(wSeq (wSet 4 (wFrz (wCallB fs__law_take 0 0 (aVar 0 (aVal (wVar 2) aNil)))))
  (wSeq (wSet 5 (wBin opMod (wBin opAdd (wBin opAdd (wVar 4) (wC (.int 1))) (wCallB fs__law_take 0 0 (aVar 0 (aVal (wBin opSub (wVar 2) (wC (.int 1))) aNil)))) (wVar 2)))
  (wSeq (wIf (wTest (wBin opEq (wVar 1) (wC (.int 1)))) (wRet (wTup (aVal (wBin opMod (wVar 3) (wVar 2)) (aVal (wBin opMod (wBin opAdd (wVar 3) (wBin opDiv (wVar 2) (wC (.int 2)))) (wVar 2)) aNil)))) wNext)
  (wSeq (wIf (wTest (wBin opEq (wVar 1) (wC (.int 2)))) (wRet (wTup (aVal (wFrz (wBin opMulI (wBin opMod (wVar 3) (wC (.int 2))) (wBin opSub (wVar 2) (wC (.int 1))))) (aVal (wFrz (wBin opMulI (wBin opSub (wC (.int 1)) (wBin opMod (wVar 3) (wC (.int 2)))) (wBin opSub (wVar 2) (wC (.int 1))))) aNil)))) wNext)
  (wSeq (wIf (wTest (wBin opEq (wVar 1) (wC (.int 3)))) (wRet (wTup (aVal (wC (.int 0)) (aVal (wFrz (wBin opAdd (wC (.int 1)) (wBin opMod (wVar 5) (wBin opSub (wVar 2) (wC (.int 1)))))) aNil)))) wNext)
  (wRet (wTup (aVal (wVar 4) (aVal (wVar 5) aNil)))))))))
theorem sat__law_ends:∀ ls post,ls.length=4→fs__law_ends ls post→m__law_ends (ls++List.replicate 2 .un) (okEnd ls post):=by
 rintro ls post - ⟨a,xs,shape,k,n,rfl,hx,n2,n3,k0,k1,h⟩
 have fin:∀ (ys:List D) (i j:Int) (ρ:Ev),StOk ys→0≤i→i < n→0≤j→j < n→i≠j→.own a ys∈ρ→okEnd [.own a xs,.d (.int shape),.d (.int n),.d (.int k)] post (.rt (.d (.tup [.int i,.int j]))) ρ:=by
  intro ys i j ρ hy i0 i1 j0 j1 hij hm
  have:=h i.toNat j.toNat ys hy (by omega) (by omega) (by omega)
  rw [Int.toNat_of_nonneg i0,Int.toNat_of_nonneg j0] at this
  exact ⟨_,back_own hm (back_d (back_d (back_d back0))),this⟩
 unfold m__law_ends
 walk_at "w"
 refine ⟨a,xs,n,rfl,hx,by omega,by omega,fun r ys hy r0 r1=>⟨ys,rfl,?_⟩⟩
 walk_at "w"
 refine ⟨a,ys,n - 1,rfl,hy,by omega,by omega,fun s zs hz s0 s1=>⟨zs,rfl,?_⟩⟩
 walk_at "w"
 refine ⟨by omega,?_⟩
 have e1:=Int.fmod_eq_emod_of_nonneg (r+1+s) (b:=n) (by omega)
 have e2:=Int.fmod_eq_emod_of_nonneg k (b:=n) (by omega)
 have e3:=Int.fdiv_eq_ediv_of_nonneg (n:Int) (b:=2) (by omega)
 have e4:=Int.fmod_eq_emod_of_nonneg (k+(n:Int) / 2) (b:=n) (by omega)
 have e5:=Int.fmod_eq_emod_of_nonneg k (b:=2) (by omega)
 have e6:=Int.fmod_eq_emod_of_nonneg ((r+1+s) % (n:Int)) (b:=(n:Int) - 1) (by omega)
 rw [e1]
 have o0:=Int.emod_nonneg (r+1+s) (b:=n) (by omega)
 have o1:=Int.emod_lt_of_pos (r+1+s) (b:=n) (by omega)
 have o2:(r+1+s) % (n:Int)≠r:=fun z=>by
  by_cases q:r+1+s < n
  ·
   rw [Int.emod_eq_of_lt (by omega) q] at z; omega
  ·
   have:(r+1+s) % (n:Int)=r+1+s - n:=by
    rw [← Int.sub_emod_right,Int.emod_eq_of_lt (by omega) (by omega)]
   omega
 split
 ·
  walk_at "w"
  rw [e2,e3,e4]
  refine ⟨by omega,by decide,by decide,by omega,by decide,fin zs _ _ _ hz (Int.emod_nonneg _ (by omega)) (Int.emod_lt_of_pos _ (by omega)) (Int.emod_nonneg _ (by omega)) (Int.emod_lt_of_pos _ (by omega)) (fun z=>?_) (by simp)⟩
  have h1:(k+(n:Int) / 2 - k) % n=0:=Int.emod_eq_emod_iff_emod_sub_eq_zero.mp z.symm
  have e9:k+(n:Int) / 2 - k=n / 2:=by omega
  rw [e9,Int.emod_eq_of_lt (by omega) (by omega)] at h1
  omega
 ·
  walk_at "w"
  split
  ·
   walk_at "w"
   rw [e5]
   have m0:=Int.emod_two_eq k
   refine ⟨by decide,bits_small (by omega),bits_small (by omega),by decide,bits_small (by omega),bits_small (by omega),by decide,?_⟩
   rcases m0 with m0 | m0
   ·
    rw [m0]
    exact fin zs _ _ _ hz (by omega) (by omega) (by omega) (by omega) (by omega) (by simp)
   ·
    rw [m0]
    exact fin zs _ _ _ hz (by omega) (by omega) (by omega) (by omega) (by omega) (by simp)
  ·
   walk_at "w"
   split
   ·
    walk_at "w"
    rw [e6]
    have p0:=Int.emod_nonneg ((r+1+s) % (n:Int)) (b:=(n:Int) - 1) (by omega)
    have p1:=Int.emod_lt_of_pos ((r+1+s) % (n:Int)) (b:=(n:Int) - 1) (by omega)
    exact ⟨by omega,by decide,fin zs _ _ _ hz (by omega) (by omega) (by omega) (by omega) (by omega) (by simp)⟩
   ·
    walk_at "w"
    exact ⟨by decide,fin zs _ _ _ hz (by omega) (by omega) (by omega) (by omega) (Ne.symm o2) (by simp)⟩
/-- a ring that is drawn: of at most so many places and asks -/
structure Drawn (most count:Nat) (R:Ring):Prop where
 ok:R.Ok
 hi:R.n≤most
 few:R.asks.length≤count
 nms:(∀ a∈R.asks,NmOk a.nm)∧(R.asks.map (·.nm)).Nodup
 tt:∀ a∈R.asks,RB 60 a.size
theorem Drawn.nt {m c:Nat} {R:Ring} (h:Drawn m c R):∀ a∈R.asks,NmOk a.nm∧RB 60 a.size:=fun a ha=>⟨h.nms.1 a ha,h.tt a ha⟩
def fs__law_ring:FS:=fun ls post=>∃ (ns:List Int) (at_ most count:Nat),ls=[.d (.lst (ns.map .int)),.d (.int at_),.d (.int most),.d (.int count)]∧at_≤90∧2≤most∧most≤12∧count≤20 ∧
 ∀ R:Ring,Drawn most count R→post (.d (ringD R)) ls
def b__law_ring_0:W Fl:=(wSeq (wAsgT [13,14] (wCallB fs__law_ends 0 4 (aVar 4 (aVal (wVar 8) (aVal (wVar 5) (aVal (wVar 12) aNil))))))
  (wDrop (wApp 11 (wTup (aVal (wBin opIx (wVar 9) (wVar 12)) (aVal (wVar 13) (aVal (wVar 14) (aVal (wFrz (wCallB fs__law_amount 0 4 (aVar 4 (aVal (wC (.int 0)) (aVal (wBin opIx (wVar 7) (wC (.int 1))) aNil))))) aNil))))))))
def c__law_ring_9:W Fl:=(wRet (wTup (aVal (wVar 10) (aVal (wVar 11) aNil))))
def c__law_ring_8:W Fl:=(wSeq (wFor (wRng1 (wVar 6)) (tgName 12) b__law_ring_0)
  c__law_ring_9)
def c__law_ring_7:W Fl:=(wSeq (wSet 11 (wLst aNil))
  c__law_ring_8)
def c__law_ring_6:W Fl:=(wSeq (wSet 4 (wCall fs__law_begun (aVal (wVar 0) (aVal (wFrz (wBin opAdd (wVar 1) (wC (.int 2)))) aNil))))
  c__law_ring_7)
def c__law_ring_5:W Fl:=(wSeq (wSet 10 (wFrz (wCall fs__law_rooms (aVal (wCall fs__law_begun (aVal (wVar 0) (aVal (wFrz (wBin opAdd (wVar 1) (wC (.int 1)))) aNil))) (aVal (wVar 5) (aVal (wBin opIx (wVar 7) (wC (.int 0))) aNil))))))
  c__law_ring_6)
def c__law_ring_4:W Fl:=(wSeq (wSet 9 (wFrz (wCallB fs__law_names 0 4 (aVar 4 (aVal (wVar 6) aNil)))))
  c__law_ring_5)
def c__law_ring_3:W Fl:=(wSeq (wSet 8 (wFrz (wCallB fs__law_take 0 4 (aVar 4 (aVal (wC (.int 6)) aNil)))))
  c__law_ring_4)
def c__law_ring_2:W Fl:=(wSeq (wSet 7 (wFrz (wLst (aVal (wFrz (wCallB fs__law_take 0 4 (aVar 4 (aVal (wC (.int 5)) aNil)))) (aVal (wFrz (wCallB fs__law_take 0 4 (aVar 4 (aVal (wC (.int 5)) aNil)))) aNil)))))
  c__law_ring_3)
def c__law_ring_1:W Fl:=(wSeq (wSet 6 (wFrz (wCallB fs__law_take 0 4 (aVar 4 (aVal (wFrz (wBin opAdd (wVar 3) (wC (.int 1)))) aNil)))))
  c__law_ring_2)
def c__law_ring_0:W Fl:=(wSeq (wSet 5 (wFrz (wBin opAdd (wC (.int 2)) (wCallB fs__law_take 0 4 (aVar 4 (aVal (wBin opSub (wVar 2) (wC (.int 1))) aNil))))))
  c__law_ring_1)
def m__law_ring:W Fl:=(wSeq (wSet 4 (wCall fs__law_begun (aVal (wVar 0) (aVal (wVar 1) aNil))))
  c__law_ring_0)
theorem ring_loop {S a1 m3 c3 rms:D} {b c:Addr} {n shape kind:Nat} {zs:List Str} {post:Fl→Ev→Prop} (hn:2≤n) (hn2:n≤12) (hk:kind < 5) (k0:Nat) (hzl:zs.length≤20) (hz:∀ z∈zs,NmOk z) (xs:List D) (hx:StOk xs) (x13 x14:L)
  (fin:∀ (as:List Ask) (ys:List D) (x12 x13 x14:L),(∀ a∈as,AskOk n a∧RB 60 a.size)→as.map (·.nm)=zs→post .nx [.d S,.d a1,.d m3,.d c3,.own b ys,.d (.int n),.d (.int (zs.length:Int)),.d (.lst [.int k0,.int kind]),.d (.int shape),.d (.lst (zs.map .str)),.d rms,.own c (as.map askD),x12,x13,x14]) :
  wForL (tgName 12) b__law_ring_0 ((List.range zs.length).map fun (i:Nat)=>D.int (i:Int)) [.d S,.d a1,.d m3,.d c3,.own b xs,.d (.int n),.d (.int (zs.length:Int)),.d (.lst [.int k0,.int kind]),.d (.int shape),.d (.lst (zs.map .str)),.d rms,.own c [],.un,x13,x14] post:=by
 refine forL_inv _ (fun j ρ=>∃ (as:List Ask) (ys:List D) (x12 x13 x14:L),ρ=[.d S,.d a1,.d m3,.d c3,.own b ys,.d (.int n),.d (.int (zs.length:Int)),.d (.lst [.int k0,.int kind]),.d (.int shape),.d (.lst (zs.map .str)),.d rms,.own c (as.map askD),x12,x13,x14]∧StOk ys∧(∀ a∈as,AskOk n a∧RB 60 a.size)∧as.map (·.nm)=zs.take j) _ ⟨[],xs,_,_,_,rfl,hx,fun a ha=>by simp at ha,rfl⟩ ?_ ?_
 ·
  rintro j x ρ hj ⟨as,ys,x12,x13,x14,rfl,hy,ha,hn'⟩ Q h1 h2 h3 h4
  have hj':j < zs.length:=by
   have:=(List.getElem?_eq_some_iff.mp hj).1
   simpa using this
  have ex:x=.int (j:Int):=by
   rw [List.getElem?_map,List.getElem?_range hj'] at hj
   exact (Option.some.inj hj).symm
  subst ex
  unfold b__law_ring_0
  walk_at "w"
  refine ⟨b,ys,shape,j,n,rfl,hy,hn,by omega,by omega,by omega,fun i k ws hw i1 k1 hik=>⟨ws,rfl,?_⟩⟩
  walk_at "w"
  refine ⟨.str zs[j],atI_map hj',?_⟩
  refine ⟨b,ws,0,kind,rfl,hw,by decide,by decide,by omega,by omega,fun q vs hv q0 _ qb=>⟨vs,rfl,?_⟩⟩
  walk_at "w"
  have hlen:as.length=j:=by
   have:=congrArg List.length hn'
   rw [List.length_map,List.length_take] at this
   omega
  refine ⟨by decide,by rw [hlen]; exact Nat.lt_of_lt_of_le hj' (Nat.le_trans hzl (by decide)),h1 _ ⟨as++[⟨zs[j],i,k,q⟩],vs,_,_,_,by rw [List.map_append]; rfl,hv,fun a hm=>?_,?_⟩⟩
  ·
   rcases List.mem_append.mp hm with hm | hm
   ·
    exact ha a hm
   ·
    rw [List.mem_singleton.mp hm]
    exact ⟨⟨i1,k1,hik,q0,lt_of_RB qb,(hz _ (List.getElem_mem hj')).ok⟩,qb⟩
  ·
   rw [List.map_append,hn',List.take_succ,List.getElem?_eq_getElem hj']
   rfl
 ·
  rintro ρ ⟨as,ys,x12,x13,x14,rfl,hy,ha,hn'⟩
  rw [List.length_map,List.length_range,List.take_of_length_le (Nat.le_refl _)] at hn'
  exact fin as ys x12 x13 x14 ha hn'
theorem sat__law_ring:∀ ls post,ls.length=4→fs__law_ring ls post→m__law_ring (ls++List.replicate 11 .un) (okEnd ls post):=by
 rintro ls post - ⟨ns,at_,most,count,rfl,ha,m2,m12,c20,h⟩
 unfold m__law_ring
 walk_at "w"
 refine ⟨ns,at_,rfl,by omega,by omega,fun b xs hx=>?_⟩
 unfold c__law_ring_0
 walk_at "w"
 refine ⟨b,xs,(most:Int) - 1,rfl,hx,by omega,by omega,fun r ys hy r0 r1=>⟨ys,rfl,?_⟩⟩
 unfold c__law_ring_1
 walk_at "w"
 refine ⟨b,ys,(count:Int)+1,rfl,hy,by omega,by omega,fun s zs hz s0 s1=>⟨zs,rfl,?_⟩⟩
 unfold c__law_ring_2
 walk_at "w"
 refine ⟨b,zs,5,rfl,hz,by decide,by decide,fun k1 ws hw k10 k11=>⟨ws,rfl,?_⟩⟩
 walk_at "w"
 refine ⟨b,ws,5,rfl,hw,by decide,by decide,fun k2 vs hv k20 k21=>⟨vs,rfl,?_⟩⟩
 walk_at "w"
 refine ⟨by decide,fun kk=>?_⟩
 unfold c__law_ring_3
 walk_at "w"
 refine ⟨b,vs,6,rfl,hv,by decide,by decide,fun sh us hu sh0 sh1=>⟨us,rfl,?_⟩⟩
 unfold c__law_ring_4
 walk_at "w"
 obtain ⟨many,rfl⟩:=Int.eq_ofNat_of_zero_le s0
 obtain ⟨pl,epl⟩:∃ pl:Nat,2+r=(pl:Int):=Int.eq_ofNat_of_zero_le (by omega)
 obtain ⟨sh',rfl⟩:=Int.eq_ofNat_of_zero_le sh0
 obtain ⟨k1',rfl⟩:=Int.eq_ofNat_of_zero_le k10
 obtain ⟨k2',rfl⟩:=Int.eq_ofNat_of_zero_le k20
 rw [epl]
 refine ⟨b,us,many,rfl,hu,by omega,fun nms c ts ht hnl hnm hnd=>⟨ts,rfl,?_⟩⟩
 unfold c__law_ring_5
 walk_at "w"
 refine ⟨ns,at_+1,rfl,by omega,by omega,fun b2 xs2 hx2=>?_⟩
 refine ⟨b2,xs2,pl,k1',rfl,hx2,by omega,by omega,by omega,by omega,fun qs c2 ys2 hy2 hql hq=>?_⟩
 unfold c__law_ring_6
 walk_at "w"
 refine ⟨ns,at_+2,rfl,by omega,by omega,fun b3 xs3 hx3=>?_⟩
 unfold c__law_ring_7
 walk_at "w"
 refine ⟨by decide,fun c3=>?_⟩
 unfold c__law_ring_8
 walk_at "w"
 refine ⟨⟨by omega,by omega⟩,?_⟩
 rw [rngD_map,Int.toNat_natCast,← hnl]
 refine ring_loop (n:=pl) (by omega) (by omega) (by omega) k1' (by omega) hnm xs3 hx3 _ _ fun as ys' x12 x13 x14 hao han=>?_
 walk_at "w"
 unfold c__law_ring_9
 walk_at "w"
 refine ⟨by decide,_,back_d (back_d (back_d (back_d back0))),h ⟨qs,as⟩ ?_⟩
 have hal:as.length=nms.length:=by rw [← han,List.length_map]
 refine ⟨⟨?_,?_,?_,hq,?_,cd_of (fun a ha=>(hao a ha).2) (by show as.length≤20; omega)⟩,?_,?_,⟨?_,?_⟩,fun a ha=>(hao a ha).2⟩
 ·
  show 2≤qs.length; omega
 ·
  show qs.length≤12; omega
 ·
  show as.length≤20; omega
 ·
  show ∀ a∈as,AskOk qs.length a; rw [hql]; exact fun a ha=>(hao a ha).1
 ·
  show qs.length≤most; omega
 ·
  show as.length≤count; omega
 ·
  intro a ha
  exact hnm _ (by rw [← han]; exact List.mem_map_of_mem ha)
 ·
  show (as.map (·.nm)).Nodup
  rw [han]
  exact hnd
def fs__law_copy:FS:=fun ls post=>∃ R:Ring,ls=[.d (ringD R)]∧post (.d (ringD R)) ls
def m__law_copy:W Fl:=(wRet (wTup (aVal (wFrz (wCallD opList (aVal (wBin opIx (wVar 0) (wC (.int 0))) aNil))) (aVal (wFrz (wCallD opList (aVal (wBin opIx (wVar 0) (wC (.int 1))) aNil))) aNil))))
theorem sat__law_copy:∀ ls post,ls.length=1→fs__law_copy ls post→m__law_copy (ls++List.replicate 0 .un) (okEnd ls post):=by
 rintro ls post - ⟨R,rfl,h⟩
 unfold m__law_copy
 walk_at "w"
 exact fun _ _=>⟨by decide,_,back_d back0,h⟩
def fs__law_let_by:FS:=fun ls post=>∃ R:Ring,ls=[.d (ringD R)]∧R.Ok∧(∀ a∈R.asks,NmOk a.nm)∧(R.asks.map (·.nm)).Nodup∧post (.d (.bl true)) ls
def m__law_let_by:W Fl:=(wSeq (wSet 1 (wFrz (wCall fs__law_copy (aVal (wVar 0) aNil))))
  (wRet (wAndV (wBin opIsN (wCallX fs_look_at_ring (fun _=>False) (aVal (wVar 1) aNil)) (wC .non)) (wAndV (wBin opIsN (wCallX fs_look_at_ring (fun _=>False) (aVal (wVar 1) aNil)) (wC .non)) (wBin opEq (wVar 1) (wVar 0))))))
theorem sat__law_let_by:∀ ls post,ls.length=1→fs__law_let_by ls post→m__law_let_by (ls++List.replicate 1 .un) (okEnd ls post):=by
 rintro ls post - ⟨R,rfl,hR,hz,nd,h⟩
 have g:∀ r a,ringD R=.tup [r,a]→(∀ rs,r=.lst rs→rs.length≤1000)∧AsksA a:=fun r a e=>by
  unfold ringD at e
  cases e
  have:=hR.hi
  exact ⟨fun rs e=>by cases e; rw [List.length_map]; exact Nat.le_trans this (by decide),askA_of hR hz⟩
 have ok:=badRing_good hR hz nd
 have bad:∀ p k,badRing (ringD R)=some (p,k)→False:=fun p k e=>by rw [ok] at e; cases e
 unfold m__law_let_by
 walk_at "w"
 refine ⟨R,rfl,?_⟩
 walk_at "w"
 refine ⟨_,rfl,g,fun _=>?_,bad⟩
 walk_at "w"
 refine ⟨_,rfl,g,fun _=>?_,bad⟩
 walk_at "w"
 refine ⟨shape_ring hR,shape_ring hR,?_⟩
 rw [eq_ring hR]
 exact ⟨_,back_d back0,h⟩
def Good (R:Ring):Prop:=R.Ok∧(∀ a∈R.asks,NmOk a.nm)∧(R.asks.map (·.nm)).Nodup
def fs__law_more:FS:=fun ls post=>∃ (a:Addr) (xs:List D) (R:Ring),ls=[.own a xs,.d (ringD R)]∧StOk xs∧Good R∧(∀ b∈R.asks,RB 60 b.size) ∧
 ∀ (c:Addr) (ys:List D) (Rs:List Ring),StOk ys→Rs.length=4→(∀ Q∈Rs,Good Q)→post (.own c (Rs.map ringD)) [.own a ys,.d (ringD R)]
def b__law_more_0:W L:=(wTup (aVal (wVar 0) (aVal (wVar 2) (aVal (wVar 1) (aVal (wVar 3) aNil)))))
def c__law_more_7:W Fl:=(wRet (wLst (aVal (wTup (aVal (wVar 4) (aVal (wVar 6) aNil))) (aVal (wTup (aVal (wFrz (wCallD opList (aVal (wVar 2) aNil))) (aVal (wFrz (wLst aNil)) aNil))) (aVal (wTup (aVal (wFrz (wCallD opList (aVal (wVar 2) aNil))) (aVal (wVar 9) aNil))) (aVal (wTup (aVal (wFrz (wCallD opList (aVal (wVar 2) aNil))) (aVal (wVar 10) aNil))) aNil))))))
def b__law_more_1:W L:=(wTup (aVal (wVar 0) (aVal (wVar 1) (aVal (wVar 2) (aVal (wTup (aVal (wC (.int 0)) (aVal (wC (.int 1)) aNil))) aNil)))))
def c__law_more_6:W Fl:=(wSeq (wSet 10 (wComp 4 [] (wSrc (wVar 3)) (tgTup [0,1,2,3]) wTrue b__law_more_0))
  c__law_more_7)
def b__law_more_2:W Fl:=(wSeq (wAsgT [7,8] (wCallB fs__law_ends 0 0 (aVar 0 (aVal (wC (.int 0)) (aVal (wFrz (wIsOwn 4 (wLenV 4) (wCallD opLen (aVal (wVar 4) aNil)))) (aVal (wFrz (wIsOwn 6 (wLenV 6) (wCallD opLen (aVal (wVar 6) aNil)))) aNil))))))
  (wDrop (wApp 6 (wTup (aVal (wBin opIx (wVar 5) (wIsOwn 6 (wLenV 6) (wCallD opLen (aVal (wVar 6) aNil)))) (aVal (wVar 7) (aVal (wVar 8) (aVal (wFrz (wCallB fs__law_amount 0 0 (aVar 0 (aVal (wC (.int 0)) (aVal (wFrz (wCallB fs__law_take 0 0 (aVar 0 (aVal (wC (.int 5)) aNil)))) aNil))))) aNil))))))))
def c__law_more_5:W Fl:=(wSeq (wSet 9 (wComp 4 [] (wSrc (wVar 3)) (tgTup [0,1,2,3]) wTrue b__law_more_1))
  c__law_more_6)
def c__law_more_4:W Fl:=(wSeq (wWhile (wTest (wBin opLt (wIsOwn 6 (wLenV 6) (wCallD opLen (aVal (wVar 6) aNil))) (wC (.int 20)))) b__law_more_2)
  c__law_more_5)
def c__law_more_3:W Fl:=(wSeq (wSet 6 (wLst aNil))
  c__law_more_4)
def b__law_more_3:W Fl:=(wDrop (wApp 4 (wCallB fs__law_amount 0 0 (aVar 0 (aVal (wC (.int 1)) (aVal (wFrz (wCallB fs__law_take 0 0 (aVar 0 (aVal (wC (.int 5)) aNil)))) aNil))))))
def c__law_more_2:W Fl:=(wSeq (wSet 5 (wFrz (wCallB fs__law_names 0 0 (aVar 0 (aVal (wC (.int 20)) aNil)))))
  c__law_more_3)
def c__law_more_1:W Fl:=(wSeq (wWhile (wTest (wBin opLt (wIsOwn 4 (wLenV 4) (wCallD opLen (aVal (wVar 4) aNil))) (wC (.int 12)))) b__law_more_3)
  c__law_more_2)
def c__law_more_0:W Fl:=(wSeq (wSet 4 (wCallD opList (aVal (wVar 2) aNil)))
  c__law_more_1)
def m__law_more:W Fl:=(wSeq (wAsgT [2,3] (wVar 1))
  c__law_more_0)
theorem more_wide {a c:Addr} {d1 d2 d3:D} {l5 l6 l7 l8 l9 l10:L} {post:Fl→Ev→Prop} (ps:List Rat) (xs:List D) (hx:StOk xs) (hl:ps.length≤12) (hp:∀ q∈ps,0 < q∧RB 60 q)
  (fin:∀ (qs:List Rat) (ys:List D),StOk ys→qs.length=12→(∀ q∈qs,0 < q∧RB 60 q)→post .nx [.own a ys,.d d1,.d d2,.d d3,.own c (qs.map frD),l5,l6,l7,l8,l9,l10]) :
  wWhile (wTest (wBin opLt (wIsOwn 4 (wLenV 4) (wCallD opLen (aVal (wVar 4) aNil))) (wC (.int 12)))) b__law_more_3 [.own a xs,.d d1,.d d2,.d d3,.own c (ps.map frD),l5,l6,l7,l8,l9,l10] post:=by
 refine ⟨fun m ρ=>∃ (qs:List Rat) (ys:List D),ρ=[.own a ys,.d d1,.d d2,.d d3,.own c (qs.map frD),l5,l6,l7,l8,l9,l10]∧StOk ys∧qs.length≤12∧m=12 - qs.length∧∀ q∈qs,0 < q∧RB 60 q,⟨_,ps,xs,rfl,hx,hl,rfl,hp⟩,?_⟩
 rintro m ρ ⟨qs,ys,rfl,hy,hl,rfl,hq⟩
 walk_at "w"
 try rw [List.length_map]
 split
 ·
  rename_i hlt
  unfold b__law_more_3
  walk_at "w"
  refine ⟨a,ys,5,rfl,hy,by decide,by decide,fun k zs hz k0 k1=>⟨zs,rfl,?_⟩⟩
  walk_at "w"
  refine ⟨a,zs,1,k,rfl,hz,by decide,by decide,k0,k1,fun q ws hw q0 q1 qb=>⟨ws,rfl,?_⟩⟩
  walk_at "w"
  refine ⟨Nat.lt_of_le_of_lt (show qs.length≤12 by omega) (by decide),12 - (qs++[q]).length,by rw [List.length_append,List.length_singleton]; omega,qs++[q],ws,by rw [List.map_append]; rfl,hw,by rw [List.length_append,List.length_singleton]; omega,rfl,fun z hz=>?_⟩
  rcases List.mem_append.mp hz with hz | hz
  ·
   exact hq z hz
  ·
   rw [List.mem_singleton.mp hz]; exact ⟨q1 rfl,qb⟩
 ·
  exact fin qs ys hy (by omega) hq
theorem more_full {a c e:Addr} {d1 d2 d3:D} {l7 l8 l9 l10:L} {zs:List Str} {post:Fl→Ev→Prop} (ps:List Rat) (hps:ps.length=12) (hzl:zs.length=20) (hz:∀ z∈zs,NmOk z) (xs:List D) (hx:StOk xs)
  (fin:∀ (as:List Ask) (ys:List D) (l7 l8:L),StOk ys→(∀ b∈as,AskOk 12 b∧RB 60 b.size)→as.map (·.nm)=zs→post .nx [.own a ys,.d d1,.d d2,.d d3,.own c (ps.map frD),.d (.lst (zs.map .str)),.own e (as.map askD),l7,l8,l9,l10]) :
  wWhile (wTest (wBin opLt (wIsOwn 6 (wLenV 6) (wCallD opLen (aVal (wVar 6) aNil))) (wC (.int 20)))) b__law_more_2 [.own a xs,.d d1,.d d2,.d d3,.own c (ps.map frD),.d (.lst (zs.map .str)),.own e [],l7,l8,l9,l10] post:=by
 refine ⟨fun m ρ=>∃ (as:List Ask) (ys:List D) (l7 l8:L),ρ=[.own a ys,.d d1,.d d2,.d d3,.own c (ps.map frD),.d (.lst (zs.map .str)),.own e (as.map askD),l7,l8,l9,l10]∧StOk ys∧as.length≤20∧m=20 - as.length∧(∀ b∈as,AskOk 12 b∧RB 60 b.size)∧as.map (·.nm)=zs.take as.length,⟨_,[],xs,_,_,rfl,hx,by simp,rfl,fun b hb=>by simp at hb,rfl⟩,?_⟩
 rintro m ρ ⟨as,ys,l7,l8,rfl,hy,hl,rfl,ha,hn⟩
 walk_at "w"
 try rw [List.length_map]
 split
 ·
  rename_i hlt
  have hj:as.length < zs.length:=by omega
  unfold b__law_more_2
  walk_at "w"
  refine ⟨a,ys,0,_,12,by rw [hps],hy,by decide,by decide,by omega,by omega,fun i k ws hw i1 k1 hik=>⟨ws,rfl,?_⟩⟩
  walk_at "w"
  refine ⟨.str zs[as.length],atI_map hj,?_⟩
  refine ⟨a,ws,5,rfl,hw,by decide,by decide,fun kd vs hv kd0 kd1=>⟨vs,rfl,?_⟩⟩
  walk_at "w"
  refine ⟨a,vs,0,kd,rfl,hv,by decide,by decide,kd0,kd1,fun q us hu q0 _ qb=>⟨us,rfl,?_⟩⟩
  walk_at "w"
  refine ⟨by decide,Nat.lt_of_le_of_lt (show as.length≤20 by omega) (by decide),20 - (as++[(⟨zs[as.length],i,k,q⟩:Ask)]).length,by rw [List.length_append,List.length_singleton]; omega,as++[⟨zs[as.length],i,k,q⟩],us,_,_,by rw [List.map_append]; rfl,hu,by rw [List.length_append,List.length_singleton]; omega,rfl,fun b hb=>?_,?_⟩
  ·
   rcases List.mem_append.mp hb with hb | hb
   ·
    exact ha b hb
   ·
    rw [List.mem_singleton.mp hb]
    exact ⟨⟨i1,k1,hik,q0,lt_of_RB qb,(hz _ (List.getElem_mem hj)).ok⟩,qb⟩
  ·
   rw [List.map_append,hn,List.length_append,List.length_singleton,List.take_succ,List.getElem?_eq_getElem hj]
   rfl
 ·
  refine fin as ys l7 l8 hy ha ?_
  rw [hn,List.take_of_length_le (by omega)]
theorem sat__law_more:∀ ls post,ls.length=2→fs__law_more ls post→m__law_more (ls++List.replicate 9 .un) (okEnd ls post):=by
 rintro ls post - ⟨a,xs,R,rfl,hx,hG,hb',h⟩
 obtain ⟨hR,hz,nd⟩:=hG
 have hfew:=hR.few
 have hhi:=hR.hi
 have hlo:=hR.lo
 unfold Ring.n at hhi hlo
 unfold m__law_more
 walk_at "w"
 have tg:∀ (k:Ev→Prop),k [.own a xs,.d (ringD R),.d (.lst (R.rooms.map frD)),.d (.lst (R.asks.map askD)),.un,.un,.un,.un,.un,.un,.un]→tgTup [2,3] (ringD R) [.own a xs,.d (ringD R),.un,.un,.un,.un,.un,.un,.un,.un,.un] k:=fun k h=>h
 refine tg _ ?_
 unfold c__law_more_0
 walk_at "w"
 intro c
 unfold c__law_more_1
 walk_at "w"
 refine more_wide R.rooms xs hx hhi hR.room fun qs ys hy hql hq=>?_
 unfold c__law_more_2
 walk_at "w"
 refine ⟨a,ys,20,rfl,hy,by decide,fun zs e ws hw hzl hzn hzd=>⟨ws,rfl,?_⟩⟩
 unfold c__law_more_3
 walk_at "w"
 refine ⟨by decide,fun e2=>?_⟩
 unfold c__law_more_4
 walk_at "w"
 refine more_full qs hql hzl hzn ws hw fun as vs l7 l8 hv ha han=>?_
 unfold c__law_more_5
 walk_at "w"
 refine ⟨Nat.le_trans hfew (by decide),comp_asks (h:=fun b=>askD ⟨b.nm,b.one,b.other,0⟩) R.asks [] _ _ _ _ (fun b hb Q q=>?_) fun l0 l1 l2 l3 a5=>?_⟩
 ·
  unfold b__law_more_1
  walk_at "w"
  exact ⟨by decide,by decide,q⟩
 ·
  unfold c__law_more_6
  walk_at "w"
  refine ⟨Nat.le_trans hfew (by decide),comp_asks (h:=fun b=>askD ⟨b.nm,b.other,b.one,b.size⟩) R.asks [] _ _ _ _ (fun b hb Q q=>?_) fun l0 l1 l2 l3 a6=>?_⟩
  ·
   unfold b__law_more_0
   walk_at "w"
   exact ⟨by decide,q⟩
  ·
   unfold c__law_more_7
   walk_at "w"
   refine ⟨by decide,fun _=>⟨by decide,fun _=>⟨by decide,fun _=>⟨by decide,fun _=>⟨by decide,by decide,fun a9=>?_⟩⟩⟩⟩⟩
   refine ⟨_,back_own (List.mem_cons_self (a:=L.own a vs)) (back_d back0),?_⟩
   have:=h a9 vs [⟨qs,as⟩,⟨R.rooms,[]⟩,⟨R.rooms,R.asks.map fun b=>⟨b.nm,b.one,b.other,0⟩⟩,⟨R.rooms,R.asks.map fun b=>⟨b.nm,b.other,b.one,b.size⟩⟩] hv rfl ?_
   ·
    simp only [List.map_cons,List.map_nil,ringD,List.map_map] at this ⊢
    exact this
   ·
    have g1:Good ⟨qs,as⟩:=by
     have hal:as.length=20:=by rw [← hzl,← han,List.length_map]
     refine ⟨⟨by show 2≤qs.length; omega,by show qs.length≤12; omega,by show as.length≤20; omega,hq,?_,cd_of (fun b hb=>(ha b hb).2) (by show as.length≤20; omega)⟩,?_,?_⟩
     ·
      show ∀ b∈as,AskOk qs.length b
      rw [hql]
      exact fun b hb=>(ha b hb).1
     ·
      intro b hb
      exact hzn _ (by rw [← han]; exact List.mem_map_of_mem hb)
     ·
      show (as.map (·.nm)).Nodup
      rw [han]
      exact hzd
    have g2:∀ f:Ask→Ask,(∀ b∈R.asks,AskOk R.n (f b)∧(f b).nm=b.nm∧RB 60 (f b).size)→Good ⟨R.rooms,R.asks.map f⟩:=fun f hf=>by
     refine ⟨⟨hlo,hhi,by show (R.asks.map f).length≤20; rw [List.length_map]; exact hfew,hR.room,?_,cd_of (as:=R.asks.map f) ?_ (by rw [List.length_map]; exact hfew)⟩,?_,?_⟩
     ·
      intro b hb
      obtain ⟨b,hm,rfl⟩:=List.mem_map.mp hb
      exact (hf b hm).1
     ·
      intro b hb
      obtain ⟨b,hm,rfl⟩:=List.mem_map.mp hb
      exact (hf b hm).2.2
     ·
      intro b hb
      obtain ⟨b,hm,rfl⟩:=List.mem_map.mp hb
      show NmOk (f b).nm
      rw [(hf b hm).2.1]
      exact hz b hm
     ·
      show ((R.asks.map f).map (·.nm)).Nodup
      rw [List.map_map,show (R.asks.map ((·.nm) ∘ f))=R.asks.map (·.nm) from List.map_congr_left fun b hb=>(hf b hb).2.1]
      exact nd
    intro Q hQ
    simp only [List.mem_cons,List.not_mem_nil,or_false] at hQ
    rcases hQ with rfl | rfl | rfl | rfl
    ·
     exact g1
    ·
     exact ⟨⟨hlo,hhi,by show 0≤20; decide,hR.room,fun b hb=>by simp at hb,⟨1,by decide,by decide,fun b hb=>by simp at hb⟩⟩,fun b hb=>by simp at hb,List.nodup_nil⟩
    ·
     exact g2 _ fun b hb=>⟨⟨(hR.ask b hb).one,(hR.ask b hb).other,(hR.ask b hb).ne,Rat.le_refl,by show (0:Rat) < _; decide +kernel,(hR.ask b hb).nm⟩,rfl,by show RB 60 0; exact ⟨by decide +kernel,by decide +kernel⟩⟩
    ·
     exact g2 _ fun b hb=>⟨⟨(hR.ask b hb).other,(hR.ask b hb).one,Ne.symm (hR.ask b hb).ne,(hR.ask b hb).size,(hR.ask b hb).lt,(hR.ask b hb).nm⟩,rfl,hb' b hb⟩
def fs_law:FS:=fun ls post=>∃ ns:List Int,ls=[.d (.lst (ns.map .int))]∧ns.length≤63∧post (.d (.bl true)) ls
theorem law_holds {ns:List Int} (hl:ns.length≤63):fs_law [.d (.lst (ns.map .int))] (fun r _=>r=.d (.bl true)):=⟨ns,rfl,hl,rfl⟩
def b_law_0:W Fl:=(wIf (wNot (wTest (wCall fs__law_let_by (aVal (wVar 3) aNil)))) (wRet (wC (.bl false))) wNext)
def b_law_1:W Fl:=(wSeq (wSet 2 (wFrz (wCall fs__law_ring (aVal (wVar 0) (aVal (wVar 1) (aVal (wC (.int 12)) (aVal (wC (.int 20)) aNil)))))))
  (wSeq (wIf (wNot (wTest (wCall fs__law_let_by (aVal (wVar 2) aNil)))) (wRet (wC (.bl false))) wNext)
  (wIf (wTest (wBin opEq (wVar 1) (wC (.int 0)))) (wFor (wSrc (wCall fs__law_more (aVal (wCall fs__law_begun (aVal (wVar 0) (aVal (wC (.int 3)) aNil))) (aVal (wVar 2) aNil)))) (tgName 3) b_law_0) wNext)))
def m_law:W Fl:=(wSeq (wFor (wRng1 (wCallD opMax (aVal (wC (.int 1)) (aVal (wFrz (wCallD opMin (aVal (wFrz (wCallD opLen (aVal (wVar 0) aNil))) (aVal (wC (.int 40)) aNil)))) aNil)))) (tgName 1) b_law_1)
  (wRet (wC (.bl true))))
theorem law_inner {S:D} {post:Fl→Ev→Prop}:∀ (Rs:List Ring) (l1 l2 l3:L),(∀ Q∈Rs,Good Q)→(∀ l3,post .nx [.d S,l1,l2,l3])→wForL (tgName 3) b_law_0 (Rs.map ringD) [.d S,l1,l2,l3] post
 | [],l1,l2,l3,_,h=>h l3
 | R::Rs,l1,l2,l3,hg,h=>by
  rw [List.map_cons,wForL_cons]
  unfold b_law_0
  walk_at "w"
  obtain ⟨g1,g2,g3⟩:=hg R List.mem_cons_self
  refine ⟨R,rfl,g1,g2,g3,?_⟩
  walk_at "w"
  exact law_inner Rs _ _ _ (fun Q hQ=>hg Q (List.mem_cons_of_mem _ hQ)) h
theorem sat_law:∀ ls post,ls.length=1→fs_law ls post→m_law (ls++List.replicate 3 .un) (okEnd ls post):=by
 rintro ls post - ⟨ns,rfl,hl,h⟩
 unfold m_law
 walk_at "w"
 refine ⟨⟨?_,?_⟩,?_⟩
 ·
  split <;> split <;> omega
 ·
  split <;> split <;> omega
 refine forR0_inv _ (fun j ρ=>∃ x1 x2 x3,ρ=[.d (.lst (ns.map .int)),x1,x2,x3]) _ ⟨_,_,_,rfl⟩ ?_ ?_
 ·
  rintro j ρ hj ⟨x1,x2,x3,rfl⟩ Q h1 h2 h3 h4
  have hj':j < 40:=by
   split at hj <;> split at hj <;> omega
  unfold b_law_1
  walk_at "w"
  refine ⟨ns,j,12,20,rfl,by omega,by decide,by decide,by decide,fun R hR=>?_⟩
  walk_at "w"
  refine ⟨R,rfl,hR.ok,hR.nms.1,hR.nms.2,?_⟩
  walk_at "w"
  by_cases h0:(j:Int)=0
  ·
   rw [if_pos h0]
   refine ⟨ns,3,rfl,by decide,by decide,fun a xs hx=>?_⟩
   walk_at "w"
   refine ⟨a,xs,R,rfl,hx,⟨hR.ok,hR.nms.1,hR.nms.2⟩,hR.tt,fun c ys Rs hy hl4 hg=>?_⟩
   walk_at "w"
   refine law_inner Rs _ _ _ hg fun l3=>?_
   exact h1 _ ⟨_,_,_,rfl⟩
  ·
   rw [if_neg h0]
   exact h1 _ ⟨_,_,_,rfl⟩
 ·
  rintro ρ ⟨x1,x2,x3,rfl⟩
  exact ⟨_,back_d back0,h⟩
abbrev s_xi_LoadError:Stmt:=Hd.inCls (Hd.top 1) 0
abbrev fd_xi_LoadError:FuncData:=fdQ "__init__" "LoadError.__init__" s_xi_LoadError (.str "ringloads.errors" 187) 27
abbrev s_xi_NoRing:Stmt:=Hd.inCls (Hd.top 2) 0
abbrev fd_xi_NoRing:FuncData:=fdQ "__init__" "NoRing.__init__" s_xi_NoRing (.str "ringloads.errors" 187) 47
structure Tx (K:PySem.W.Frag) (mg:Str→Option Value) (ad:Nat→Addr) (fd:Nat→FuncData):Prop where
 x_greatest_shared:FX K mg "greatest_shared" s_greatest_shared (ad 0) (fd 0) ["one","other"]
 x_is_whole:FX K mg "is_whole" s_is_whole (ad 1) (fd 1) ["thing"]
 x_is_number_below:FX K mg "is_number_below" s_is_number_below (ad 2) (fd 2) ["thing","many"]
 x_are_two_wholes:FX K mg "are_two_wholes" s_are_two_wholes (ad 3) (fd 3) ["thing"]
 x_is_ratio:FX K mg "is_ratio" s_is_ratio (ad 4) (fd 4) ["thing"]
 x_is_name:FX K mg "is_name" s_is_name (ad 5) (fd 5) ["thing"]
 x_look_at_rooms:FX K mg "look_at_rooms" s_look_at_rooms (ad 6) (fd 6) ["rooms"]
 x_is_ask:FX K mg "is_ask" s_is_ask (ad 7) (fd 7) ["thing","is_end"]
 x_look_at_each_ask:FX K mg "look_at_each_ask" s_look_at_each_ask (ad 8) (fd 8) ["asks","is_end"]
 x_look_at_asks:FX K mg "look_at_asks" s_look_at_asks (ad 9) (fd 9) ["asks","places"]
 l_look_at_asks:LamT K "look_at_asks" (fd 9) s_look_at_asks
 x_look_at_ring:FX K mg "look_at_ring" s_look_at_ring (ad 10) (fd 10) ["thing"]
 x__law_begun:FX K mg "_law_begun" s__law_begun (ad 11) (fd 11) ["_law_script","_law_k"]
 x__law_take:FX K mg "_law_take" s__law_take (ad 12) (fd 12) ["_law_state","_law_many"]
 x__law_names:FX K mg "_law_names" s__law_names (ad 13) (fd 13) ["_law_state","_law_many"]
 x__law_low:FX K mg "_law_low" s__law_low (ad 14) (fd 14) ["_law_top","_law_bottom"]
 x__law_amount:FX K mg "_law_amount" s__law_amount (ad 15) (fd 15) ["_law_state","_law_least","_law_kind"]
 x__law_rooms:FX K mg "_law_rooms" s__law_rooms (ad 16) (fd 16) ["_law_state","_law_ties","_law_kind"]
 x__law_ends:FX K mg "_law_ends" s__law_ends (ad 17) (fd 17) ["_law_state","_law_shape","_law_places","_law_k"]
 x__law_ring:FX K mg "_law_ring" s__law_ring (ad 18) (fd 18) ["_law_script","_law_at","_law_most","_law_count"]
 x__law_copy:FX K mg "_law_copy" s__law_copy (ad 19) (fd 19) ["_law_ring_here"]
 x__law_let_by:FX K mg "_law_let_by" s__law_let_by (ad 20) (fd 20) ["_law_ring_here"]
 x__law_more:FX K mg "_law_more" s__law_more (ad 21) (fd 21) ["_law_state","_law_ring_here"]
 x_law:FX K mg "law" s_law (ad 22) (fd 22) ["_law_script"]
 li:XLoad K mg 31 28 fd_xi_LoadError s_xi_LoadError
 i_NoRing:Fun K "__init__" "NoRing.__init__" s_xi_NoRing 48 fd_xi_NoRing
 c_NoRing:XT K mg "NoRing" 51 48 fd_xi_NoRing ["self","part","number"] ["part","number"]
 z_ValueError:mg "ValueError"=none
 z_abs:mg "abs"=none
 z_all:mg "all"=none
 z_bool:mg "bool"=none
 z_enumerate:mg "enumerate"=none
 z_int:mg "int"=none
 z_isinstance:mg "isinstance"=none
 z_len:mg "len"=none
 z_list:mg "list"=none
 z_max:mg "max"=none
 z_min:mg "min"=none
 z_range:mg "range"=none
 z_str:mg "str"=none
 z_tuple:mg "tuple"=none
 g_FEWEST_TIES:GlobT K mg "FEWEST_TIES" (.int 2)
 g_LONGEST_NAME:GlobT K mg "LONGEST_NAME" (.int 8)
 g_MOST_ASKS:GlobT K mg "MOST_ASKS" (.int 20)
 g_MOST_TIES:GlobT K mg "MOST_TIES" (.int 12)
section
variable {P:Program} {w:World} {K:PySem.W.Frag} {mg:Str→Option Value} {base:Heap} {ad:Nat→Addr} {fd:Nat→FuncData}
theorem sc_xi_LoadError:FnScope ["self","text"] ["self","text"] (defScope s_xi_LoadError):=⟨rfl,rfl,rfl,by decide +kernel,rfl,by decide +kernel,by decide +kernel⟩
theorem sc_xi_NoRing:FnScope ["self","part","number"] ["self","part","number"] (defScope s_xi_NoRing):=⟨rfl,rfl,rfl,by decide +kernel,rfl,by decide +kernel,by decide +kernel⟩
theorem xi_LoadError (T:Tx K mg ad fd):FnOk P w K mg base CX0 1 28 fd_xi_LoadError ["self","text"] (spLI K):=T.li.f.ok (k:=0) sc_xi_LoadError spLI_len (fun cdv A outer s H vs Q E hr q=>⟨_,pss_one (ps_expr (pe_vinit rfl T.z_ValueError (pa_cons (pv 0) (pa_cons (pv 1) pa_nil)))),read_LI q⟩)
theorem xi_NoRing (T:Tx K mg ad fd):FnOk P w K mg base CX0 2 48 fd_xi_NoRing ["self","part","number"] (spXI K ["part","number"]):=T.i_NoRing.ok (k:=1) sc_xi_NoRing spXI_len (fun cdv A outer s H vs Q E hr q=>⟨_,pss_cons (ps_expr (pe_linit T.li (xi_LoadError T) hr rfl (pa_cons (pv 0) (pa_cons pe_str pa_nil)))) (pss_cons (ps_xset (pv 0) (pv 1)) (pss_one (ps_xset (pv 0) (pv 2)))),read_I2 (by decide) q⟩)
theorem sc_greatest_shared:FnScope N_greatest_shared ["one","other"] (defScope s_greatest_shared):=⟨rfl,rfl,rfl,by decide +kernel,rfl,by decide +kernel,by decide +kernel⟩
set_option maxHeartbeats 0 in
theorem ok_greatest_shared (T:Tx K mg ad fd):FnOk P w K mg base CX0 1 (ad 0) (fd 0) ["one","other"] (spF K 2 fs_greatest_shared) :=
 fn_ok (k:=0) T.x_greatest_shared.f sc_greatest_shared m_greatest_shared (fun cdv A outer s H E hr=>(pms_cons (pm_while PassesOwn.never (pbc (od_ne hr.units) (pl_var 1) pl_int (nomark _)) (pms_cons (pm_set (i:=2) sc_greatest_shared.nd rfl (by walk_at "o") (pl_bin od_mod (pl_var 0) (pl_var 1)))
  (pms_cons (pm_set (i:=0) sc_greatest_shared.nd rfl (by walk_at "o") (pl_var 1))
  (pms_one (pm_set (i:=1) sc_greatest_shared.nd rfl (by walk_at "o") (pl_var 2))))))
  (pms_one (pm_ret (pl_callD cd_abs rfl T.z_abs (by decide +kernel) (pal_val (pl_var 0) pal_nil))))))
  sat_greatest_shared
theorem sc_is_whole:FnScope N_is_whole ["thing"] (defScope s_is_whole):=⟨rfl,rfl,rfl,by decide +kernel,rfl,by decide +kernel,by decide +kernel⟩
set_option maxHeartbeats 0 in
theorem ok_is_whole (T:Tx K mg ad fd):FnOk P w K mg base CX0 1 (ad 1) (fd 1) ["thing"] (spF K 1 fs_is_whole) :=
 fn_ok (k:=0) T.x_is_whole.f sc_is_whole m_is_whole (fun cdv A outer s H E hr=>(pms_one (pm_ret (pl_and (pl_isT kit_int rfl T.z_isinstance rfl T.z_int (by decide +kernel) (pl_var 0)) (pl_one (pl_not (pl_isT kit_bool rfl T.z_isinstance rfl T.z_bool (by decide +kernel) (pl_var 0))))))))
  sat_is_whole
theorem sc_is_number_below:FnScope N_is_number_below ["thing","many"] (defScope s_is_number_below):=⟨rfl,rfl,rfl,by decide +kernel,rfl,by decide +kernel,by decide +kernel⟩
set_option maxHeartbeats 0 in
theorem ok_is_number_below (T:Tx K mg ad fd):FnOk P w K mg base CX0 2 (ad 2) (fd 2) ["thing","many"] (spF K 2 fs_is_number_below) :=
 fn_ok (k:=1) T.x_is_number_below.f sc_is_number_below m_is_number_below (fun cdv A outer s H E hr=>(pms_one (pm_ret (pl_and (pl_cx (ok_is_whole T) T.x_is_whole hr (pal_val (pl_var 0) pal_nil)) (pl_one (pl_chain ci_le ci_lt pl_int (pl_var 0) (pl_var 1)))))))
  sat_is_number_below
theorem sc_are_two_wholes:FnScope N_are_two_wholes ["thing"] (defScope s_are_two_wholes):=⟨rfl,rfl,rfl,by decide +kernel,rfl,by decide +kernel,by decide +kernel⟩
set_option maxHeartbeats 0 in
theorem ok_are_two_wholes (T:Tx K mg ad fd):FnOk P w K mg base CX0 2 (ad 3) (fd 3) ["thing"] (spF K 1 fs_are_two_wholes) :=
 fn_ok (k:=1) T.x_are_two_wholes.f sc_are_two_wholes m_are_two_wholes (fun cdv A outer s H E hr=>(pms_one (pm_ret (pl_and (pl_isT kit_tuple rfl T.z_isinstance rfl T.z_tuple (by decide +kernel) (pl_var 0)) (pl_and (pl_cmp (od_eq hr.units) (pl_callD cd_len rfl T.z_len (by decide +kernel) (pal_val (pl_var 0) pal_nil)) pl_int (nomark _)) (pl_and (pl_cx (ok_is_whole T) T.x_is_whole hr (pal_val (pl_ix (pl_var 0) pl_int (fun _ _=>rfl)) pal_nil)) (pl_one (pl_cx (ok_is_whole T) T.x_is_whole hr (pal_val (pl_ix (pl_var 0) pl_int (fun _ _=>rfl)) pal_nil)))))))))
  sat_are_two_wholes
theorem sc_is_ratio:FnScope N_is_ratio ["thing"] (defScope s_is_ratio):=⟨rfl,rfl,rfl,by decide +kernel,rfl,by decide +kernel,by decide +kernel⟩
set_option maxHeartbeats 0 in
theorem ok_is_ratio (T:Tx K mg ad fd):FnOk P w K mg base CX0 3 (ad 4) (fd 4) ["thing"] (spF K 1 fs_is_ratio) :=
 fn_ok (k:=2) T.x_is_ratio.f sc_is_ratio m_is_ratio (fun cdv A outer s H E hr=>(pms_one (pm_ret (pl_and (pl_cx (ok_are_two_wholes T) T.x_are_two_wholes hr (pal_val (pl_var 0) pal_nil)) (pl_and (pl_cmp od_ge (pl_ix (pl_var 0) pl_int (fun _ _=>rfl)) pl_int (nomark _)) (pl_one (pl_cmp (od_eq hr.units) (pl_cx (ok_greatest_shared T) T.x_greatest_shared hr (pal_val (pl_ix (pl_var 0) pl_int (fun _ _=>rfl)) (pal_val (pl_ix (pl_var 0) pl_int (fun _ _=>rfl)) pal_nil))) pl_int (nomark _))))))))
  sat_is_ratio
theorem sc_is_name:FnScope N_is_name ["thing"] (defScope s_is_name):=⟨rfl,rfl,rfl,by decide +kernel,rfl,by decide +kernel,by decide +kernel⟩
set_option maxHeartbeats 0 in
theorem ok_is_name (T:Tx K mg ad fd):FnOk P w K mg base CX0 1 (ad 5) (fd 5) ["thing"] (spF K 1 fs_is_name) :=
 fn_ok (k:=0) T.x_is_name.f sc_is_name m_is_name (fun cdv A outer s H E hr=>(pms_cons (pm_if (pb_not (pb_val (pl_isT kit_str rfl T.z_isinstance rfl T.z_str (by decide +kernel) (pl_var 0)))) (pms_one (pm_ret pl_bl)) pms_nil)
  (pms_one (pm_ret (pl_and (pl_chain ci_le ci_le pl_int (pl_callD cd_len rfl T.z_len (by decide +kernel) (pal_val (pl_var 0) pal_nil)) (pl_G T.g_LONGEST_NAME rfl)) (pl_one (pl_callD (cd_all rfl) rfl T.z_all (by decide +kernel) (pal_val (pl_frz (pl_comp (sc:=(defScope s_is_name)) (N:=N_is_name) (Nt:=["sign"]) (Nf:=[]) (fi:=[]) rfl rfl rfl (pil_str (pl_var 0)) rfl (by decide +kernel) (by decide +kernel) (by decide +kernel) (by decide) rfl (by decide +kernel) (by decide) (fun _ _ _ _=>(tc_name (by decide) (show ((["sign"]:List Str)++([]:List Str)).Nodup by decide +kernel) rfl (Or.inl rfl))) (fun _ _ _ _=>pif_nil) (fun _ _ _ _=>(pl_chainN pl_str (Links.cons od_le2 (pl_var 0) (Links.one od_le2 pl_str)))))) pal_nil))))))))
  sat_is_name
theorem sc_look_at_rooms:FnScope N_look_at_rooms ["rooms"] (defScope s_look_at_rooms):=⟨rfl,rfl,rfl,by decide +kernel,rfl,by decide +kernel,by decide +kernel⟩
set_option maxHeartbeats 0 in
theorem ok_look_at_rooms (T:Tx K mg ad fd):FnOk P w K mg base (CXr P w) 4 (ad 6) (fd 6) ["rooms"] (spX K 1 fs_look_at_rooms) :=
 fn_okX (k:=3) T.x_look_at_rooms.f sc_look_at_rooms (fun xp=>m_look_at_rooms xp) (fun cdv A outer s H E xp hr hE=>(pms_cons (pm_if (PBw.pb (pbw_or (pb_not (pb_val (pl_isT kit_list rfl T.z_isinstance rfl T.z_list (by decide +kernel) (pl_var 0)))) (pbw_or1 (pb_not (pb_chain ci_le ci_le (pl_G T.g_FEWEST_TIES rfl) (pl_callD cd_len rfl T.z_len (by decide +kernel) (pal_val (pl_var 0) pal_nil)) (pl_G T.g_MOST_TIES rfl)))))) (pms_one (pm_raiseF T.c_NoRing (xi_NoRing T) hr (xok_def hE) (pal_val pl_str (pal_val pl_non pal_nil)))) pms_nil)
  (pms_one (pm_for PassesOwn.leaving rfl (pil_enum rfl T.z_enumerate (pl_var 0)) (tg_tup rfl (tgs_cons (i:=1) sc_look_at_rooms.nd rfl (by walk_at "o") (tgs_cons (i:=2) sc_look_at_rooms.nd rfl (by walk_at "o") tgs_nil))) (pms_one (pm_if (PBw.pb (pbw_or (pb_not (pb_val (pl_cx (ok_is_ratio T) T.x_is_ratio hr (pal_val (pl_var 2) pal_nil)))) (pbw_or1 (pbc od_le (pl_ix (pl_var 2) pl_int (fun _ _=>rfl)) pl_int (nomark _))))) (pms_one (pm_raiseF T.c_NoRing (xi_NoRing T) hr (xok_def hE) (pal_val pl_str (pal_val (pl_var 1) pal_nil)))) pms_nil))))))
  sat_look_at_rooms
set_option maxHeartbeats 0 in
theorem ok_look_at_asks_lam (T:Tx K mg ad fd):LamOk P w K mg base 3 "look_at_asks" fs_look_at_asks_lam:=lam_ok (k:=2) (p:="place") (y:="places") (T.l_look_at_asks.lam.trans rfl) (lamSc rfl rfl rfl rfl rfl rfl fun _ _ _ _ _ _=>rfl) m_look_at_asks_lam (fun A outer s H f c c' hr=>(pl_cx (ok_is_number_below T) T.x_is_number_below hr (pal_val (pl_var 0) (pal_val (pl_var 1) pal_nil)))) sat_look_at_asks_lam
theorem sc_is_ask:FnScope N_is_ask ["thing","is_end"] (defScope s_is_ask):=⟨rfl,rfl,rfl,by decide +kernel,rfl,by decide +kernel,by decide +kernel⟩
set_option maxHeartbeats 0 in
theorem ok_is_ask (T:Tx K mg ad fd):FnOk P w K mg base CX0 4 (ad 7) (fd 7) ["thing","is_end"] (spF K 2 fs_is_ask) :=
 fn_ok (k:=3) T.x_is_ask.f sc_is_ask m_is_ask (fun cdv A outer s H E hr=>(pms_cons (pm_if (PBw.pb (pbw_or (pb_not (pb_val (pl_isT kit_tuple rfl T.z_isinstance rfl T.z_tuple (by decide +kernel) (pl_var 0)))) (pbw_or1 (pbc (od_ne hr.units) (pl_callD cd_len rfl T.z_len (by decide +kernel) (pal_val (pl_var 0) pal_nil)) pl_int (nomark _))))) (pms_one (pm_ret pl_bl)) pms_nil)
  (pms_cons (pm_if (PBw.pb (pbw_or (pb_not (pb_val (pl_cx (ok_is_name T) T.x_is_name hr (pal_val (pl_ix (pl_var 0) pl_int (fun _ _=>rfl)) pal_nil)))) (pbw_or1 (pb_not (pb_val (pl_cx (ok_is_ratio T) T.x_is_ratio hr (pal_val (pl_ix (pl_var 0) pl_int (fun _ _=>rfl)) pal_nil))))))) (pms_one (pm_ret pl_bl)) pms_nil)
  (pms_cons (pm_if (PBw.pb (pbw_or (pb_not (pb_val (pl_cFn (ok_look_at_asks_lam T) hr 1 (pl_ix (pl_var 0) pl_int (fun _ _=>rfl))))) (pbw_or1 (pb_not (pb_val (pl_cFn (ok_look_at_asks_lam T) hr 1 (pl_ix (pl_var 0) pl_int (fun _ _=>rfl)))))))) (pms_one (pm_ret pl_bl)) pms_nil)
  (pms_one (pm_ret (pl_and (pl_cmp (od_ne hr.units) (pl_ix (pl_var 0) pl_int (fun _ _=>rfl)) (pl_ix (pl_var 0) pl_int (fun _ _=>rfl)) (nomark _)) (pl_one (pl_cmp od_ge (pl_ix (pl_ix (pl_var 0) pl_int (fun _ _=>rfl)) pl_int (fun _ _=>rfl)) pl_int (nomark _))))))))))
  sat_is_ask
theorem sc_look_at_each_ask:FnScope N_look_at_each_ask ["asks","is_end"] (defScope s_look_at_each_ask):=⟨rfl,rfl,rfl,by decide +kernel,rfl,by decide +kernel,by decide +kernel⟩
set_option maxHeartbeats 0 in
theorem ok_look_at_each_ask (T:Tx K mg ad fd):FnOk P w K mg base (CXr P w) 5 (ad 8) (fd 8) ["asks","is_end"] (spX K 2 fs_look_at_each_ask) :=
 fn_okX (k:=4) T.x_look_at_each_ask.f sc_look_at_each_ask (fun xp=>m_look_at_each_ask xp) (fun cdv A outer s H E xp hr hE=>(pms_cons (pm_if (pb_not (pb_val (pl_isT kit_list rfl T.z_isinstance rfl T.z_list (by decide +kernel) (pl_var 0)))) (pms_one (pm_raiseF T.c_NoRing (xi_NoRing T) hr (xok_def hE) (pal_val pl_str (pal_val pl_non pal_nil)))) pms_nil)
  (pms_cons (pm_set (i:=2) sc_look_at_each_ask.nd rfl (by walk_at "o") pl_dct0)
  (pms_one (pm_for PassesOwn.leaving rfl (pil_enum rfl T.z_enumerate (pl_var 0)) (tg_tup rfl (tgs_cons (i:=3) sc_look_at_each_ask.nd rfl (by walk_at "o") (tgs_cons (i:=4) sc_look_at_each_ask.nd rfl (by walk_at "o") tgs_nil))) (pms_cons (pm_if (PBw.pb (pbw_or (pb_not (pb_val (pl_cx (ok_is_ask T) T.x_is_ask hr (pal_val (pl_var 4) (pal_val (pl_var 1) pal_nil))))) (pbw_or1 (pb_din 2 (pl_ix (pl_var 4) pl_int (fun _ _=>rfl)) rfl)))) (pms_one (pm_raiseF T.c_NoRing (xi_NoRing T) hr (xok_def hE) (pal_val pl_str (pal_val (pl_var 3) pal_nil)))) pms_nil)
  (pms_one (pm_dset 2 (pl_ix (pl_var 4) pl_int (fun _ _=>rfl)) pl_bl))))))))
  sat_look_at_each_ask
theorem sc_look_at_asks:FnScope N_look_at_asks ["asks","places"] (defScope s_look_at_asks):=⟨rfl,rfl,rfl,by decide +kernel,rfl,by decide +kernel,by decide +kernel⟩
set_option maxHeartbeats 0 in
theorem ok_look_at_asks (T:Tx K mg ad fd):FnOk P w K mg base (CXr P w) 6 (ad 9) (fd 9) ["asks","places"] (spX K 2 fs_look_at_asks) :=
 fn_okXL (k:=5) T.x_look_at_asks.f sc_look_at_asks (fun xp=>m_look_at_asks xp) (fun cdv A outer s H E xp hcv hr hE=>(pms_cons (pm_if (PBw.pb (pbw_and (pb_val (pl_isT kit_list rfl T.z_isinstance rfl T.z_list (by decide +kernel) (pl_var 0))) (pbw_and1 (pbc od_gt (pl_callD cd_len rfl T.z_len (by decide +kernel) (pal_val (pl_var 0) pal_nil)) (pl_G T.g_MOST_ASKS rfl) (nomark _))))) (pms_one (pm_raiseF T.c_NoRing (xi_NoRing T) hr (xok_def hE) (pal_val pl_str (pal_val pl_non pal_nil)))) pms_nil)
  (pms_one (pm_expr (pl_cxXL (ok_look_at_each_ask T) T.x_look_at_each_ask hr (xok_def hE) 1 (lam_in T.l_look_at_asks hcv rfl (by decide) rfl rfl rfl rfl rfl rfl) (pl_var 0))))))
  sat_look_at_asks
theorem sc_look_at_ring:FnScope N_look_at_ring ["thing"] (defScope s_look_at_ring):=⟨rfl,rfl,rfl,by decide +kernel,rfl,by decide +kernel,by decide +kernel⟩
set_option maxHeartbeats 0 in
theorem ok_look_at_ring (T:Tx K mg ad fd):FnOk P w K mg base (CXr P w) 7 (ad 10) (fd 10) ["thing"] (spX K 1 fs_look_at_ring) :=
 fn_okX (k:=6) T.x_look_at_ring.f sc_look_at_ring (fun xp=>m_look_at_ring xp) (fun cdv A outer s H E xp hr hE=>(pms_cons (pm_if (PBw.pb (pbw_or (pb_not (pb_val (pl_isT kit_tuple rfl T.z_isinstance rfl T.z_tuple (by decide +kernel) (pl_var 0)))) (pbw_or1 (pbc (od_ne hr.units) (pl_callD cd_len rfl T.z_len (by decide +kernel) (pal_val (pl_var 0) pal_nil)) pl_int (nomark _))))) (pms_one (pm_raiseF T.c_NoRing (xi_NoRing T) hr (xok_def hE) (pal_val pl_str (pal_val pl_non pal_nil)))) pms_nil)
  (pms_cons (pm_expr (pl_cxX (ok_look_at_rooms T) T.x_look_at_rooms hr (xok_def hE) (pal_val (pl_ix (pl_var 0) pl_int (fun _ _=>rfl)) pal_nil)))
  (pms_one (pm_expr (pl_cxX (ok_look_at_asks T) T.x_look_at_asks hr (xok_def hE) (pal_val (pl_ix (pl_var 0) pl_int (fun _ _=>rfl)) (pal_val (pl_frz (pl_callD cd_len rfl T.z_len (by decide +kernel) (pal_val (pl_ix (pl_var 0) pl_int (fun _ _=>rfl)) pal_nil))) pal_nil))))))))
  sat_look_at_ring
theorem sc__law_begun:FnScope N__law_begun ["_law_script","_law_k"] (defScope s__law_begun):=⟨rfl,rfl,rfl,by decide +kernel,rfl,by decide +kernel,by decide +kernel⟩
set_option maxHeartbeats 0 in
theorem ok__law_begun (T:Tx K mg ad fd):FnOk P w K mg base CX0 1 (ad 11) (fd 11) ["_law_script","_law_k"] (spF K 2 fs__law_begun) :=
 fn_ok (k:=0) T.x__law_begun.f sc__law_begun m__law_begun (fun cdv A outer s H E hr=>(pms_cons (pm_set (i:=2) sc__law_begun.nd rfl (by walk_at "o") pl_int)
  (pms_cons (pm_if (pbc od_lt (pl_var 1) (pl_callD cd_len rfl T.z_len (by decide +kernel) (pal_val (pl_var 0) pal_nil)) (nomark _)) (pms_one (pm_set (i:=2) sc__law_begun.nd rfl (by walk_at "o") (pl_ix (pl_var 0) (pl_var 1) (fun _ _=>rfl)))) pms_nil)
  (pms_one (pm_ret (pl_lst (pal_val (pl_var 2) (pal_val (pl_bin od_mod (pl_bin od_add (pl_bin od_add (pl_bin od_mod (pl_var 2) pl_int) (pl_bin od_mulI (pl_bin od_mulI pl_int (pl_var 1)) (pl_var 1))) pl_int) pl_int) (pal_val (pl_cmp od_ge (pl_var 2) (pl_bin od_pow pl_int pl_int) (nomark _)) pal_nil)))))))))
  sat__law_begun
theorem sc__law_take:FnScope N__law_take ["_law_state","_law_many"] (defScope s__law_take):=⟨rfl,rfl,rfl,by decide +kernel,rfl,by decide +kernel,by decide +kernel⟩
set_option maxHeartbeats 0 in
theorem ok__law_take (T:Tx K mg ad fd):FnOk P w K mg base CX0 1 (ad 12) (fd 12) ["_law_state","_law_many"] (spF K 2 fs__law_take) :=
 fn_ok (k:=0) T.x__law_take.f sc__law_take m__law_take (fun cdv A outer s H E hr=>(pms_cons (pm_if (pb_val (pl_own (pl_ixV 0 pl_int (fun _ _=>rfl)) (pl_ix (pl_var 0) pl_int (fun _ _=>rfl)))) (pms_cons (pm_set (i:=2) sc__law_take.nd rfl (by walk_at "o") (pl_bin od_mod (pl_own (pl_ixV 0 pl_int (fun _ _=>rfl)) (pl_ix (pl_var 0) pl_int (fun _ _=>rfl))) (pl_var 1)))
  (pms_cons (pm_setV 0 pl_int (pl_bin od_div (pl_own (pl_ixV 0 pl_int (fun _ _=>rfl)) (pl_ix (pl_var 0) pl_int (fun _ _=>rfl))) (pl_var 1)))
  (pms_cons (pm_setV 0 pl_int (pl_cmp od_gt (pl_own (pl_ixV 0 pl_int (fun _ _=>rfl)) (pl_ix (pl_var 0) pl_int (fun _ _=>rfl))) pl_int (nomark _)))
  (pms_one (pm_ret (pl_move 2)))))) pms_nil)
  (pms_cons (pm_set (i:=3) sc__law_take.nd rfl (by walk_at "o") pl_int)
  (pms_cons (pm_for PassesOwn.never rfl (pil_rng1 rfl T.z_range (pl_bin od_add pl_int (pl_bin od_mulI pl_int (pl_callTD cd_int rfl T.z_int (by decide +kernel) (pal_val (pl_cmp od_gt (pl_var 1) (pl_bin od_pow pl_int pl_int) (nomark _)) pal_nil))))) (tg_name (i:=4) sc__law_take.nd rfl (by walk_at "o")) (pms_cons (pm_setV 0 pl_int (pl_bin od_mod (pl_bin od_add (pl_bin od_mulI (pl_own (pl_ixV 0 pl_int (fun _ _=>rfl)) (pl_ix (pl_var 0) pl_int (fun _ _=>rfl))) pl_int) pl_int) pl_int))
  (pms_one (pm_set (i:=3) sc__law_take.nd rfl (by walk_at "o") (pl_frz (pl_bin od_add (pl_bin od_mulI (pl_var 3) pl_int) (pl_bin od_mod (pl_bin od_mulI (pl_own (pl_ixV 0 pl_int (fun _ _=>rfl)) (pl_ix (pl_var 0) pl_int (fun _ _=>rfl))) (pl_own (pl_ixV 0 pl_int (fun _ _=>rfl)) (pl_ix (pl_var 0) pl_int (fun _ _=>rfl)))) pl_int)))))))
  (pms_one (pm_ret (pl_bin od_mod (pl_bin od_div (pl_var 3) pl_int) (pl_var 1))))))))
  sat__law_take
theorem sc__law_names:FnScope N__law_names ["_law_state","_law_many"] (defScope s__law_names):=⟨rfl,rfl,rfl,by decide +kernel,rfl,by decide +kernel,by decide +kernel⟩
set_option maxHeartbeats 0 in
theorem ok__law_names (T:Tx K mg ad fd):FnOk P w K mg base CX0 2 (ad 13) (fd 13) ["_law_state","_law_many"] (spF K 2 fs__law_names) :=
 fn_ok (k:=1) T.x__law_names.f sc__law_names m__law_names (fun cdv A outer s H E hr=>(pms_cons (pm_set (i:=2) sc__law_names.nd rfl (by walk_at "o") pl_str)
  (pms_cons (pm_set (i:=3) sc__law_names.nd rfl (by walk_at "o") (pl_frz (pl_join (pl_comp (sc:=(defScope s__law_names)) (N:=N__law_names) (Nt:=["_law_k"]) (Nf:=["_law_letters","_law_state"]) (fi:=[2,0]) rfl rfl rfl (pil_rng1 rfl T.z_range (pl_bin od_add pl_int (pl_cxB (ok__law_take T) T.x__law_take hr 0 0 (pal_var 0 (pal_val pl_int pal_nil))))) rfl (by decide +kernel) (by decide +kernel) (by decide +kernel) (by decide) rfl (by decide +kernel) (by decide) (fun _ _ _ _=>(tc_name (by decide) (show ((["_law_k"]:List Str)++(["_law_letters","_law_state"]:List Str)).Nodup by decide +kernel) rfl (Or.inl rfl))) (fun _ _ _ _=>pif_nil) (fun _ _ _ _=>(pl_ix (pl_var 1) (pl_cxB (ok__law_take T) T.x__law_take hr 0 2 (pal_var 2 (pal_val pl_int pal_nil))) (fun _ _=>rfl)))))))
  (pms_cons (pm_set (i:=4) sc__law_names.nd rfl (by walk_at "o") (pl_frz (pl_cxB (ok__law_take T) T.x__law_take hr 0 0 (pal_var 0 (pal_val (pl_frz (pl_callD cd_len rfl T.z_len (by decide +kernel) (pal_val (pl_var 3) pal_nil))) pal_nil)))))
  (pms_cons (pm_set (i:=5) sc__law_names.nd rfl (by walk_at "o") (pl_frz (pl_cxB (ok__law_take T) T.x__law_take hr 0 0 (pal_var 0 (pal_val pl_int pal_nil)))))
  (pms_one (pm_ret (pl_comp (sc:=(defScope s__law_names)) (N:=N__law_names) (Nt:=["_law_k"]) (Nf:=["_law_base","_law_at","_law_letters","_law_turn"]) (fi:=[3,4,2,5]) rfl rfl rfl (pil_rng1 rfl T.z_range (pl_var 1)) rfl (by decide +kernel) (by decide +kernel) (by decide +kernel) (by decide) rfl (by decide +kernel) (by decide) (fun _ _ _ _=>(tc_name (by decide) (show ((["_law_k"]:List Str)++(["_law_base","_law_at","_law_letters","_law_turn"]:List Str)).Nodup by decide +kernel) rfl (Or.inl rfl))) (fun _ _ _ _=>pif_nil) (fun _ _ _ _=>(pl_bin od_add (pl_bin od_add (pl_slice2 (pl_var 1) trivial (pl_var 2)) (pl_ix (pl_var 3) (pl_bin od_mod (pl_bin od_add (pl_var 4) (pl_var 0)) pl_int) (fun _ _=>rfl))) (pl_slice2 (pl_var 1) (pl_bin od_add (pl_var 2) pl_int) trivial)))))))))))
  sat__law_names
theorem sc__law_low:FnScope N__law_low ["_law_top","_law_bottom"] (defScope s__law_low):=⟨rfl,rfl,rfl,by decide +kernel,rfl,by decide +kernel,by decide +kernel⟩
set_option maxHeartbeats 0 in
theorem ok__law_low (T:Tx K mg ad fd):FnOk P w K mg base CX0 1 (ad 14) (fd 14) ["_law_top","_law_bottom"] (spF K 2 fs__law_low) :=
 fn_ok (k:=0) T.x__law_low.f sc__law_low m__law_low (fun cdv A outer s H E hr=>(pms_cons (pm_set (i:=2) sc__law_low.nd rfl (by walk_at "o") (pl_frz (pl_callD cd_abs rfl T.z_abs (by decide +kernel) (pal_val (pl_var 0) pal_nil))))
  (pms_cons (pm_set (i:=3) sc__law_low.nd rfl (by walk_at "o") (pl_frz (pl_callD cd_abs rfl T.z_abs (by decide +kernel) (pal_val (pl_var 1) pal_nil))))
  (pms_cons (pm_while PassesOwn.never (pbc (od_ne hr.units) (pl_var 2) pl_int (nomark _)) (pms_one (pm_par (i:=2) (j:=3) rfl sc__law_low.nd rfl rfl (by decide) rfl rfl (pl_bin od_mod (pl_var 3) (pl_var 2)) (pl_var 2) rfl)))
  (pms_cons (pm_if (pbc od_lt (pl_var 1) pl_int (nomark _)) (pms_one (pm_set (i:=3) sc__law_low.nd rfl (by walk_at "o") (pl_bin od_sub pl_int (pl_var 3)))) pms_nil)
  (pms_one (pm_ret (pl_tup (pal_val (pl_bin od_div (pl_var 0) (pl_var 3)) (pal_val (pl_bin od_div (pl_var 1) (pl_var 3)) pal_nil))))))))))
  sat__law_low
theorem sc__law_amount:FnScope N__law_amount ["_law_state","_law_least","_law_kind"] (defScope s__law_amount):=⟨rfl,rfl,rfl,by decide +kernel,rfl,by decide +kernel,by decide +kernel⟩
set_option maxHeartbeats 0 in
theorem ok__law_amount (T:Tx K mg ad fd):FnOk P w K mg base CX0 2 (ad 15) (fd 15) ["_law_state","_law_least","_law_kind"] (spF K 3 fs__law_amount) :=
 fn_ok (k:=1) T.x__law_amount.f sc__law_amount m__law_amount (fun cdv A outer s H E hr=>by exact (@pms_cons _ _ _ _ _ (@pm_set _ _ _ 3 _ _ _ sc__law_amount.nd rfl (by walk_at "o") (@pl_frz _ _ _ (@pl_bin _ _ _ _ _ _ _ _ od_add pl_int (pl_cxB (ok__law_take T) T.x__law_take hr 0 0 (pal_var 0 (@pal_val _ _ _ _ _ _ (@pl_ix _ _ _ _ _ _ (@pl_lst _ _ _ _ _ (@pal_val _ _ _ _ _ _ pl_int (@pal_val _ _ _ _ _ _ pl_int (@pal_val _ _ _ _ _ _ pl_int (@pal_val _ _ _ _ _ _ pl_int (@pal_val _ _ _ _ _ _ pl_int pal_nil (by kernel_rfl)) (by kernel_rfl)) (by kernel_rfl)) (by kernel_rfl)) (by kernel_rfl))) (pl_var 2) (fun _ _=>rfl)) pal_nil (by kernel_rfl)))))) (by kernel_rfl) (by first | exact .inl rfl | exact .inr rfl)) (@pms_cons _ _ _ _ _ (@pm_set _ _ _ 4 _ _ _ sc__law_amount.nd rfl (by walk_at "o") (@pl_frz _ _ _ (@pl_bin _ _ _ _ _ _ _ _ od_add (pl_var 1) (pl_cxB (ok__law_take T) T.x__law_take hr 0 0 (pal_var 0 (@pal_val _ _ _ _ _ _ (@pl_ix _ _ _ _ _ _ (@pl_lst _ _ _ _ _ (@pal_val _ _ _ _ _ _ pl_int (@pal_val _ _ _ _ _ _ pl_int (@pal_val _ _ _ _ _ _ pl_int (@pal_val _ _ _ _ _ _ pl_int (@pal_val _ _ _ _ _ _ (@pl_bin _ _ _ _ _ _ _ _ od_pow pl_int pl_int) pal_nil (by kernel_rfl)) (by kernel_rfl)) (by kernel_rfl)) (by kernel_rfl)) (by kernel_rfl))) (pl_var 2) (fun _ _=>rfl)) pal_nil (by kernel_rfl)))))) (by kernel_rfl) (by first | exact .inl rfl | exact .inr rfl)) (@pms_one _ _ _ (@pm_ret _ _ _ _ (pl_cx (ok__law_low T) T.x__law_low hr (@pal_val _ _ _ _ _ _ (pl_var 4) (@pal_val _ _ _ _ _ _ (pl_var 3) pal_nil (by kernel_rfl)) (by kernel_rfl))))))))
  sat__law_amount
theorem sc__law_rooms:FnScope N__law_rooms ["_law_state","_law_ties","_law_kind"] (defScope s__law_rooms):=⟨rfl,rfl,rfl,by decide +kernel,rfl,by decide +kernel,by decide +kernel⟩
set_option maxHeartbeats 0 in
theorem ok__law_rooms (T:Tx K mg ad fd):FnOk P w K mg base CX0 3 (ad 16) (fd 16) ["_law_state","_law_ties","_law_kind"] (spF K 3 fs__law_rooms) :=
 fn_ok (k:=2) T.x__law_rooms.f sc__law_rooms m__law_rooms (fun cdv A outer s H E hr=>(pms_cons (pm_set (i:=3) sc__law_rooms.nd rfl (by walk_at "o") (pl_frz (pl_cxB (ok__law_take T) T.x__law_take hr 0 0 (pal_var 0 (pal_val pl_int pal_nil)))))
  (pms_cons (pm_set (i:=4) sc__law_rooms.nd rfl (by walk_at "o") (pl_frz (pl_cxB (ok__law_amount T) T.x__law_amount hr 0 0 (pal_var 0 (pal_val pl_int (pal_val (pl_var 2) pal_nil))))))
  (pms_cons (pm_if (pbc (od_eq hr.units) (pl_var 3) pl_int (nomark _)) (pms_one (pm_set (i:=4) sc__law_rooms.nd rfl (by walk_at "o") (pl_tup (pal_val pl_int (pal_val pl_int pal_nil))))) pms_nil)
  (pms_cons (pm_set (i:=5) sc__law_rooms.nd rfl (by walk_at "o") (pl_lst (pal_val (pl_var 4) pal_nil)))
  (pms_cons (pm_while PassesOwn.never (pbc od_lt (pl_own (pl_lenV 5 rfl T.z_len) (pl_callD cd_len rfl T.z_len PySem.boot_len (pal_val (pl_var 5) pal_nil))) (pl_var 1) (nomark _)) (pms_cons (pm_set (i:=6) sc__law_rooms.nd rfl (by walk_at "o") (pl_frz (pl_cxB (ok__law_amount T) T.x__law_amount hr 0 0 (pal_var 0 (pal_val pl_int (pal_val (pl_var 2) pal_nil))))))
  (pms_one (pm_expr (pl_append 5 (pl_ix (pl_lst (pal_val (pl_var 4) (pal_val (pl_var 6) pal_nil))) (pl_callTD cd_int rfl T.z_int (by decide +kernel) (pal_val (pl_cmp (od_eq hr.units) (pl_var 3) pl_int (nomark _)) pal_nil)) (fun _ _=>rfl)))))))
  (pms_one (pm_ret (pl_move 5)))))))))
  sat__law_rooms
theorem sc__law_ends:FnScope N__law_ends ["_law_state","_law_shape","_law_places","_law_k"] (defScope s__law_ends):=⟨rfl,rfl,rfl,by decide +kernel,rfl,by decide +kernel,by decide +kernel⟩
set_option maxHeartbeats 0 in
theorem ok__law_ends (T:Tx K mg ad fd):FnOk P w K mg base CX0 2 (ad 17) (fd 17) ["_law_state","_law_shape","_law_places","_law_k"] (spF K 4 fs__law_ends) :=
 fn_ok (k:=1) T.x__law_ends.f sc__law_ends m__law_ends (fun cdv A outer s H E hr=>(pms_cons (pm_set (i:=4) sc__law_ends.nd rfl (by walk_at "o") (pl_frz (pl_cxB (ok__law_take T) T.x__law_take hr 0 0 (pal_var 0 (pal_val (pl_var 2) pal_nil)))))
  (pms_cons (pm_set (i:=5) sc__law_ends.nd rfl (by walk_at "o") (pl_bin od_mod (pl_bin od_add (pl_bin od_add (pl_var 4) pl_int) (pl_cxB (ok__law_take T) T.x__law_take hr 0 0 (pal_var 0 (pal_val (pl_bin od_sub (pl_var 2) pl_int) pal_nil)))) (pl_var 2)))
  (pms_cons (pm_if (pbc (od_eq hr.units) (pl_var 1) pl_int (nomark _)) (pms_one (pm_ret (pl_tup (pal_val (pl_bin od_mod (pl_var 3) (pl_var 2)) (pal_val (pl_bin od_mod (pl_bin od_add (pl_var 3) (pl_bin od_div (pl_var 2) pl_int)) (pl_var 2)) pal_nil))))) pms_nil)
  (pms_cons (pm_if (pbc (od_eq hr.units) (pl_var 1) pl_int (nomark _)) (pms_one (pm_ret (pl_tup (pal_val (pl_frz (pl_bin od_mulI (pl_bin od_mod (pl_var 3) pl_int) (pl_bin od_sub (pl_var 2) pl_int))) (pal_val (pl_frz (pl_bin od_mulI (pl_bin od_sub pl_int (pl_bin od_mod (pl_var 3) pl_int)) (pl_bin od_sub (pl_var 2) pl_int))) pal_nil))))) pms_nil)
  (pms_cons (pm_if (pbc (od_eq hr.units) (pl_var 1) pl_int (nomark _)) (pms_one (pm_ret (pl_tup (pal_val pl_int (pal_val (pl_frz (pl_bin od_add pl_int (pl_bin od_mod (pl_var 5) (pl_bin od_sub (pl_var 2) pl_int)))) pal_nil))))) pms_nil)
  (pms_one (pm_ret (pl_tup (pal_val (pl_var 4) (pal_val (pl_var 5) pal_nil)))))))))))
  sat__law_ends
theorem sc__law_ring:FnScope N__law_ring ["_law_script","_law_at","_law_most","_law_count"] (defScope s__law_ring):=⟨rfl,rfl,rfl,by decide +kernel,rfl,by decide +kernel,by decide +kernel⟩
set_option maxHeartbeats 0 in
theorem ok__law_ring (T:Tx K mg ad fd):FnOk P w K mg base CX0 4 (ad 18) (fd 18) ["_law_script","_law_at","_law_most","_law_count"] (spF K 4 fs__law_ring) :=
 fn_ok (k:=3) T.x__law_ring.f sc__law_ring m__law_ring (fun cdv A outer s H E hr=>by exact (@pms_cons _ _ _ _ _ (@pm_set _ _ _ 4 _ _ _ sc__law_ring.nd rfl (by walk_at "o") (pl_cx (ok__law_begun T) T.x__law_begun hr (@pal_val _ _ _ _ _ _ (pl_var 0) (@pal_val _ _ _ _ _ _ (pl_var 1) pal_nil (by kernel_rfl)) (by kernel_rfl))) (by kernel_rfl) (by first | exact .inl rfl | exact .inr rfl)) (@pms_cons _ _ _ _ _ (@pm_set _ _ _ 5 _ _ _ sc__law_ring.nd rfl (by walk_at "o") (@pl_frz _ _ _ (@pl_bin _ _ _ _ _ _ _ _ od_add pl_int (pl_cxB (ok__law_take T) T.x__law_take hr 0 4 (pal_var 4 (@pal_val _ _ _ _ _ _ (@pl_bin _ _ _ _ _ _ _ _ od_sub (pl_var 2) pl_int) pal_nil (by kernel_rfl)))))) (by kernel_rfl) (by first | exact .inl rfl | exact .inr rfl)) (@pms_cons _ _ _ _ _ (@pm_set _ _ _ 6 _ _ _ sc__law_ring.nd rfl (by walk_at "o") (@pl_frz _ _ _ (pl_cxB (ok__law_take T) T.x__law_take hr 0 4 (pal_var 4 (@pal_val _ _ _ _ _ _ (@pl_frz _ _ _ (@pl_bin _ _ _ _ _ _ _ _ od_add (pl_var 3) pl_int)) pal_nil (by kernel_rfl))))) (by kernel_rfl) (by first | exact .inl rfl | exact .inr rfl)) (@pms_cons _ _ _ _ _ (@pm_set _ _ _ 7 _ _ _ sc__law_ring.nd rfl (by walk_at "o") (@pl_frz _ _ _ (@pl_lst _ _ _ _ _ (@pal_val _ _ _ _ _ _ (@pl_frz _ _ _ (pl_cxB (ok__law_take T) T.x__law_take hr 0 4 (pal_var 4 (@pal_val _ _ _ _ _ _ pl_int pal_nil (by kernel_rfl))))) (@pal_val _ _ _ _ _ _ (@pl_frz _ _ _ (pl_cxB (ok__law_take T) T.x__law_take hr 0 4 (pal_var 4 (@pal_val _ _ _ _ _ _ pl_int pal_nil (by kernel_rfl))))) pal_nil (by kernel_rfl)) (by kernel_rfl)))) (by kernel_rfl) (by first | exact .inl rfl | exact .inr rfl)) (@pms_cons _ _ _ _ _ (@pm_set _ _ _ 8 _ _ _ sc__law_ring.nd rfl (by walk_at "o") (@pl_frz _ _ _ (pl_cxB (ok__law_take T) T.x__law_take hr 0 4 (pal_var 4 (@pal_val _ _ _ _ _ _ pl_int pal_nil (by kernel_rfl))))) (by kernel_rfl) (by first | exact .inl rfl | exact .inr rfl)) (@pms_cons _ _ _ _ _ (@pm_set _ _ _ 9 _ _ _ sc__law_ring.nd rfl (by walk_at "o") (@pl_frz _ _ _ (pl_cxB (ok__law_names T) T.x__law_names hr 0 4 (pal_var 4 (@pal_val _ _ _ _ _ _ (pl_var 6) pal_nil (by kernel_rfl))))) (by kernel_rfl) (by first | exact .inl rfl | exact .inr rfl)) (@pms_cons _ _ _ _ _ (@pm_set _ _ _ 10 _ _ _ sc__law_ring.nd rfl (by walk_at "o") (@pl_frz _ _ _ (pl_cx (ok__law_rooms T) T.x__law_rooms hr (@pal_val _ _ _ _ _ _ (pl_cx (ok__law_begun T) T.x__law_begun hr (@pal_val _ _ _ _ _ _ (pl_var 0) (@pal_val _ _ _ _ _ _ (@pl_frz _ _ _ (@pl_bin _ _ _ _ _ _ _ _ od_add (pl_var 1) pl_int)) pal_nil (by kernel_rfl)) (by kernel_rfl))) (@pal_val _ _ _ _ _ _ (pl_var 5) (@pal_val _ _ _ _ _ _ (@pl_ix _ _ _ _ _ _ (pl_var 7) pl_int (fun _ _=>rfl)) pal_nil (by kernel_rfl)) (by kernel_rfl)) (by kernel_rfl)))) (by kernel_rfl) (by first | exact .inl rfl | exact .inr rfl)) (@pms_cons _ _ _ _ _ (@pm_set _ _ _ 4 _ _ _ sc__law_ring.nd rfl (by walk_at "o") (pl_cx (ok__law_begun T) T.x__law_begun hr (@pal_val _ _ _ _ _ _ (pl_var 0) (@pal_val _ _ _ _ _ _ (@pl_frz _ _ _ (@pl_bin _ _ _ _ _ _ _ _ od_add (pl_var 1) pl_int)) pal_nil (by kernel_rfl)) (by kernel_rfl))) (by kernel_rfl) (by first | exact .inl rfl | exact .inr rfl)) (@pms_cons _ _ _ _ _ (@pm_set _ _ _ 11 _ _ _ sc__law_ring.nd rfl (by walk_at "o") (@pl_lst _ _ _ _ _ pal_nil) (by kernel_rfl) (by first | exact .inl rfl | exact .inr rfl)) (@pms_cons _ _ _ _ _ (pm_for PassesOwn.never rfl (pil_rng1 rfl T.z_range (pl_var 6)) (tg_name (i:=12) sc__law_ring.nd rfl (by walk_at "o")) (@pms_cons _ _ _ _ _ (pm_asgT (tg_tup rfl (tgs_cons (i:=13) sc__law_ring.nd rfl (by walk_at "o") (tgs_cons (i:=14) sc__law_ring.nd rfl (by walk_at "o") tgs_nil))) (pl_cxB (ok__law_ends T) T.x__law_ends hr 0 4 (pal_var 4 (@pal_val _ _ _ _ _ _ (pl_var 8) (@pal_val _ _ _ _ _ _ (pl_var 5) (@pal_val _ _ _ _ _ _ (pl_var 12) pal_nil (by kernel_rfl)) (by kernel_rfl)) (by kernel_rfl))))) (@pms_one _ _ _ (pm_expr (pl_append 11 (@pl_tup _ _ _ _ _ _ (@pal_val _ _ _ _ _ _ (@pl_ix _ _ _ _ _ _ (pl_var 9) (pl_var 12) (fun _ _=>rfl)) (@pal_val _ _ _ _ _ _ (pl_var 13) (@pal_val _ _ _ _ _ _ (pl_var 14) (@pal_val _ _ _ _ _ _ (@pl_frz _ _ _ (pl_cxB (ok__law_amount T) T.x__law_amount hr 0 4 (pal_var 4 (@pal_val _ _ _ _ _ _ pl_int (@pal_val _ _ _ _ _ _ (@pl_ix _ _ _ _ _ _ (pl_var 7) pl_int (fun _ _=>rfl)) pal_nil (by kernel_rfl)) (by kernel_rfl))))) pal_nil (by kernel_rfl)) (by kernel_rfl)) (by kernel_rfl)) (by kernel_rfl)))))))) (@pms_one _ _ _ (@pm_ret _ _ _ _ (@pl_tup _ _ _ _ _ _ (@pal_val _ _ _ _ _ _ (pl_var 10) (@pal_val _ _ _ _ _ _ (pl_var 11) pal_nil (by kernel_rfl)) (by kernel_rfl))))))))))))))))
  sat__law_ring
theorem sc__law_copy:FnScope N__law_copy ["_law_ring_here"] (defScope s__law_copy):=⟨rfl,rfl,rfl,by decide +kernel,rfl,by decide +kernel,by decide +kernel⟩
set_option maxHeartbeats 0 in
theorem ok__law_copy (T:Tx K mg ad fd):FnOk P w K mg base CX0 1 (ad 19) (fd 19) ["_law_ring_here"] (spF K 1 fs__law_copy) :=
 fn_ok (k:=0) T.x__law_copy.f sc__law_copy m__law_copy (fun cdv A outer s H E hr=>(pms_one (pm_ret (pl_tup (pal_val (pl_frz (pl_callTD cd_list rfl T.z_list (by decide +kernel) (pal_val (pl_ix (pl_var 0) pl_int (fun _ _=>rfl)) pal_nil))) (pal_val (pl_frz (pl_callTD cd_list rfl T.z_list (by decide +kernel) (pal_val (pl_ix (pl_var 0) pl_int (fun _ _=>rfl)) pal_nil))) pal_nil))))))
  sat__law_copy
theorem sc__law_let_by:FnScope N__law_let_by ["_law_ring_here"] (defScope s__law_let_by):=⟨rfl,rfl,rfl,by decide +kernel,rfl,by decide +kernel,by decide +kernel⟩
set_option maxHeartbeats 0 in
theorem ok__law_let_by (T:Tx K mg ad fd):FnOk P w K mg base CX0 8 (ad 20) (fd 20) ["_law_ring_here"] (spF K 1 fs__law_let_by) :=
 fn_ok (k:=7) T.x__law_let_by.f sc__law_let_by m__law_let_by (fun cdv A outer s H E hr=>(pms_cons (pm_set (i:=1) sc__law_let_by.nd rfl (by walk_at "o") (pl_frz (pl_cx (ok__law_copy T) T.x__law_copy hr (pal_val (pl_var 0) pal_nil))))
  (pms_one (pm_ret (pl_and (pl_cmp od_isN' (pl_cxX (ok_look_at_ring T) T.x_look_at_ring hr xok_no (pal_val (pl_var 1) pal_nil)) pl_non (nomark _)) (pl_and (pl_cmp od_isN' (pl_cxX (ok_look_at_ring T) T.x_look_at_ring hr xok_no (pal_val (pl_var 1) pal_nil)) pl_non (nomark _)) (pl_one (pl_cmp (od_eq hr.units) (pl_var 1) (pl_var 0) (nomark _)))))))))
  sat__law_let_by
theorem sc__law_more:FnScope N__law_more ["_law_state","_law_ring_here"] (defScope s__law_more):=⟨rfl,rfl,rfl,by decide +kernel,rfl,by decide +kernel,by decide +kernel⟩
set_option maxHeartbeats 0 in
theorem ok__law_more (T:Tx K mg ad fd):FnOk P w K mg base CX0 3 (ad 21) (fd 21) ["_law_state","_law_ring_here"] (spF K 2 fs__law_more) :=
 fn_ok (k:=2) T.x__law_more.f sc__law_more m__law_more (fun cdv A outer s H E hr=>by exact (@pms_cons _ _ _ _ _ (pm_asgT (tg_tup rfl (tgs_cons (i:=2) sc__law_more.nd rfl (by walk_at "o") (tgs_cons (i:=3) sc__law_more.nd rfl (by walk_at "o") tgs_nil))) (pl_var 1)) (@pms_cons _ _ _ _ _ (@pm_set _ _ _ 4 _ _ _ sc__law_more.nd rfl (by walk_at "o") (pl_callTD cd_list rfl T.z_list (by decide +kernel) (@pal_val _ _ _ _ _ _ (pl_var 2) pal_nil (by kernel_rfl))) (by kernel_rfl) (by first | exact .inl rfl | exact .inr rfl)) (@pms_cons _ _ _ _ _ (pm_while PassesOwn.never (pbc od_lt (@pl_own _ _ _ _ _ (pl_lenV 4 rfl T.z_len) (pl_callD cd_len rfl T.z_len PySem.boot_len (@pal_val _ _ _ _ _ _ (pl_var 4) pal_nil (by kernel_rfl)))) pl_int (nomark _)) (@pms_one _ _ _ (pm_expr (pl_append 4 (pl_cxB (ok__law_amount T) T.x__law_amount hr 0 0 (pal_var 0 (@pal_val _ _ _ _ _ _ pl_int (@pal_val _ _ _ _ _ _ (@pl_frz _ _ _ (pl_cxB (ok__law_take T) T.x__law_take hr 0 0 (pal_var 0 (@pal_val _ _ _ _ _ _ pl_int pal_nil (by kernel_rfl))))) pal_nil (by kernel_rfl)) (by kernel_rfl)))))))) (@pms_cons _ _ _ _ _ (@pm_set _ _ _ 5 _ _ _ sc__law_more.nd rfl (by walk_at "o") (@pl_frz _ _ _ (pl_cxB (ok__law_names T) T.x__law_names hr 0 0 (pal_var 0 (@pal_val _ _ _ _ _ _ pl_int pal_nil (by kernel_rfl))))) (by kernel_rfl) (by first | exact .inl rfl | exact .inr rfl)) (@pms_cons _ _ _ _ _ (@pm_set _ _ _ 6 _ _ _ sc__law_more.nd rfl (by walk_at "o") (@pl_lst _ _ _ _ _ pal_nil) (by kernel_rfl) (by first | exact .inl rfl | exact .inr rfl)) (@pms_cons _ _ _ _ _ (pm_while PassesOwn.never (pbc od_lt (@pl_own _ _ _ _ _ (pl_lenV 6 rfl T.z_len) (pl_callD cd_len rfl T.z_len PySem.boot_len (@pal_val _ _ _ _ _ _ (pl_var 6) pal_nil (by kernel_rfl)))) pl_int (nomark _)) (@pms_cons _ _ _ _ _ (pm_asgT (tg_tup rfl (tgs_cons (i:=7) sc__law_more.nd rfl (by walk_at "o") (tgs_cons (i:=8) sc__law_more.nd rfl (by walk_at "o") tgs_nil))) (pl_cxB (ok__law_ends T) T.x__law_ends hr 0 0 (pal_var 0 (@pal_val _ _ _ _ _ _ pl_int (@pal_val _ _ _ _ _ _ (@pl_frz _ _ _ (@pl_own _ _ _ _ _ (pl_lenV 4 rfl T.z_len) (pl_callD cd_len rfl T.z_len PySem.boot_len (@pal_val _ _ _ _ _ _ (pl_var 4) pal_nil (by kernel_rfl))))) (@pal_val _ _ _ _ _ _ (@pl_frz _ _ _ (@pl_own _ _ _ _ _ (pl_lenV 6 rfl T.z_len) (pl_callD cd_len rfl T.z_len PySem.boot_len (@pal_val _ _ _ _ _ _ (pl_var 6) pal_nil (by kernel_rfl))))) pal_nil (by kernel_rfl)) (by kernel_rfl)) (by kernel_rfl))))) (@pms_one _ _ _ (pm_expr (pl_append 6 (@pl_tup _ _ _ _ _ _ (@pal_val _ _ _ _ _ _ (@pl_ix _ _ _ _ _ _ (pl_var 5) (@pl_own _ _ _ _ _ (pl_lenV 6 rfl T.z_len) (pl_callD cd_len rfl T.z_len PySem.boot_len (@pal_val _ _ _ _ _ _ (pl_var 6) pal_nil (by kernel_rfl)))) (fun _ _=>rfl)) (@pal_val _ _ _ _ _ _ (pl_var 7) (@pal_val _ _ _ _ _ _ (pl_var 8) (@pal_val _ _ _ _ _ _ (@pl_frz _ _ _ (pl_cxB (ok__law_amount T) T.x__law_amount hr 0 0 (pal_var 0 (@pal_val _ _ _ _ _ _ pl_int (@pal_val _ _ _ _ _ _ (@pl_frz _ _ _ (pl_cxB (ok__law_take T) T.x__law_take hr 0 0 (pal_var 0 (@pal_val _ _ _ _ _ _ pl_int pal_nil (by kernel_rfl))))) pal_nil (by kernel_rfl)) (by kernel_rfl))))) pal_nil (by kernel_rfl)) (by kernel_rfl)) (by kernel_rfl)) (by kernel_rfl)))))))) (@pms_cons _ _ _ _ _ (pm_setC sc__law_more.nd (j:=9) rfl (by walk_at "o") (sc:=(defScope s__law_more)) (N:=N__law_more) (Nt:=[ "_law_name" ,"_law_one" ,"_law_other" ,"_law_size" ]) (Nf:=[]) (fi:=[]) rfl rfl rfl (pil_seq (pl_var 3)) rfl (by decide +kernel) (by decide +kernel) (by decide +kernel) (by decide) rfl (by decide +kernel) (by decide) (fun _ _ _ _=>(tc_tup rfl (tcs_cons (i:=0) (by decide) (show (([ "_law_name" ,"_law_one" ,"_law_other" ,"_law_size" ]:List Str)++([]:List Str)).Nodup by decide +kernel) rfl (Or.inl rfl) (tcs_cons (i:=1) (by decide) (show (([ "_law_name" ,"_law_one" ,"_law_other" ,"_law_size" ]:List Str)++([]:List Str)).Nodup by decide +kernel) rfl (Or.inl rfl) (tcs_cons (i:=2) (by decide) (show (([ "_law_name" ,"_law_one" ,"_law_other" ,"_law_size" ]:List Str)++([]:List Str)).Nodup by decide +kernel) rfl (Or.inl rfl) (tcs_cons (i:=3) (by decide) (show (([ "_law_name" ,"_law_one" ,"_law_other" ,"_law_size" ]:List Str)++([]:List Str)).Nodup by decide +kernel) rfl (Or.inl rfl) tcs_nil)))))) (fun _ _ _ _=>pif_nil) (fun _ _ _ _=>(@pl_tup _ _ _ _ _ _ (@pal_val _ _ _ _ _ _ (pl_var 0) (@pal_val _ _ _ _ _ _ (pl_var 1) (@pal_val _ _ _ _ _ _ (pl_var 2) (@pal_val _ _ _ _ _ _ (@pl_tup _ _ _ _ _ _ (@pal_val _ _ _ _ _ _ pl_int (@pal_val _ _ _ _ _ _ pl_int pal_nil (by kernel_rfl)) (by kernel_rfl))) pal_nil (by kernel_rfl)) (by kernel_rfl)) (by kernel_rfl)) (by kernel_rfl))))) (@pms_cons _ _ _ _ _ (pm_setC sc__law_more.nd (j:=10) rfl (by walk_at "o") (sc:=(defScope s__law_more)) (N:=N__law_more) (Nt:=[ "_law_name" ,"_law_one" ,"_law_other" ,"_law_size" ]) (Nf:=[]) (fi:=[]) rfl rfl rfl (pil_seq (pl_var 3)) rfl (by decide +kernel) (by decide +kernel) (by decide +kernel) (by decide) rfl (by decide +kernel) (by decide) (fun _ _ _ _=>(tc_tup rfl (tcs_cons (i:=0) (by decide) (show (([ "_law_name" ,"_law_one" ,"_law_other" ,"_law_size" ]:List Str)++([]:List Str)).Nodup by decide +kernel) rfl (Or.inl rfl) (tcs_cons (i:=1) (by decide) (show (([ "_law_name" ,"_law_one" ,"_law_other" ,"_law_size" ]:List Str)++([]:List Str)).Nodup by decide +kernel) rfl (Or.inl rfl) (tcs_cons (i:=2) (by decide) (show (([ "_law_name" ,"_law_one" ,"_law_other" ,"_law_size" ]:List Str)++([]:List Str)).Nodup by decide +kernel) rfl (Or.inl rfl) (tcs_cons (i:=3) (by decide) (show (([ "_law_name" ,"_law_one" ,"_law_other" ,"_law_size" ]:List Str)++([]:List Str)).Nodup by decide +kernel) rfl (Or.inl rfl) tcs_nil)))))) (fun _ _ _ _=>pif_nil) (fun _ _ _ _=>(@pl_tup _ _ _ _ _ _ (@pal_val _ _ _ _ _ _ (pl_var 0) (@pal_val _ _ _ _ _ _ (pl_var 2) (@pal_val _ _ _ _ _ _ (pl_var 1) (@pal_val _ _ _ _ _ _ (pl_var 3) pal_nil (by kernel_rfl)) (by kernel_rfl)) (by kernel_rfl)) (by kernel_rfl))))) (@pms_one _ _ _ (@pm_ret _ _ _ _ (@pl_lst _ _ _ _ _ (@pal_val _ _ _ _ _ _ (@pl_tup _ _ _ _ _ _ (@pal_val _ _ _ _ _ _ (pl_var 4) (@pal_val _ _ _ _ _ _ (pl_var 6) pal_nil (by kernel_rfl)) (by kernel_rfl))) (@pal_val _ _ _ _ _ _ (@pl_tup _ _ _ _ _ _ (@pal_val _ _ _ _ _ _ (@pl_frz _ _ _ (pl_callTD cd_list rfl T.z_list (by decide +kernel) (@pal_val _ _ _ _ _ _ (pl_var 2) pal_nil (by kernel_rfl)))) (@pal_val _ _ _ _ _ _ (@pl_frz _ _ _ (@pl_lst _ _ _ _ _ pal_nil)) pal_nil (by kernel_rfl)) (by kernel_rfl))) (@pal_val _ _ _ _ _ _ (@pl_tup _ _ _ _ _ _ (@pal_val _ _ _ _ _ _ (@pl_frz _ _ _ (pl_callTD cd_list rfl T.z_list (by decide +kernel) (@pal_val _ _ _ _ _ _ (pl_var 2) pal_nil (by kernel_rfl)))) (@pal_val _ _ _ _ _ _ (pl_var 9) pal_nil (by kernel_rfl)) (by kernel_rfl))) (@pal_val _ _ _ _ _ _ (@pl_tup _ _ _ _ _ _ (@pal_val _ _ _ _ _ _ (@pl_frz _ _ _ (pl_callTD cd_list rfl T.z_list (by decide +kernel) (@pal_val _ _ _ _ _ _ (pl_var 2) pal_nil (by kernel_rfl)))) (@pal_val _ _ _ _ _ _ (pl_var 10) pal_nil (by kernel_rfl)) (by kernel_rfl))) pal_nil (by kernel_rfl)) (by kernel_rfl)) (by kernel_rfl)) (by kernel_rfl))))))))))))))
  sat__law_more
theorem sc_law:FnScope N_law ["_law_script"] (defScope s_law):=⟨rfl,rfl,rfl,by decide +kernel,rfl,by decide +kernel,by decide +kernel⟩
set_option maxHeartbeats 0 in
theorem ok_law (T:Tx K mg ad fd):FnOk P w K mg base CX0 9 (ad 22) (fd 22) ["_law_script"] (spF K 1 fs_law) :=
 fn_ok (k:=8) T.x_law.f sc_law m_law (fun cdv A outer s H E hr=>by exact (@pms_cons _ _ _ _ _ (pm_for PassesOwn.never rfl (pil_rng1 rfl T.z_range (pl_callD (cd_max rfl) rfl T.z_max (by decide +kernel) (@pal_val _ _ _ _ _ _ pl_int (@pal_val _ _ _ _ _ _ (@pl_frz _ _ _ (pl_callD (cd_min rfl) rfl T.z_min (by decide +kernel) (@pal_val _ _ _ _ _ _ (@pl_frz _ _ _ (pl_callD cd_len rfl T.z_len (by decide +kernel) (@pal_val _ _ _ _ _ _ (pl_var 0) pal_nil (by kernel_rfl)))) (@pal_val _ _ _ _ _ _ pl_int pal_nil (by kernel_rfl)) (by kernel_rfl)))) pal_nil (by kernel_rfl)) (by kernel_rfl)))) (tg_name (i:=1) sc_law.nd rfl (by walk_at "o")) (@pms_cons _ _ _ _ _ (@pm_set _ _ _ 2 _ _ _ sc_law.nd rfl (by walk_at "o") (@pl_frz _ _ _ (pl_cx (ok__law_ring T) T.x__law_ring hr (@pal_val _ _ _ _ _ _ (pl_var 0) (@pal_val _ _ _ _ _ _ (pl_var 1) (@pal_val _ _ _ _ _ _ pl_int (@pal_val _ _ _ _ _ _ pl_int pal_nil (by kernel_rfl)) (by kernel_rfl)) (by kernel_rfl)) (by kernel_rfl)))) (by kernel_rfl) (by first | exact .inl rfl | exact .inr rfl)) (@pms_cons _ _ _ _ _ (@pm_if _ _ _ _ _ _ _ _ (pb_not (pb_val (pl_cx (ok__law_let_by T) T.x__law_let_by hr (@pal_val _ _ _ _ _ _ (pl_var 2) pal_nil (by kernel_rfl))))) (@pms_one _ _ _ (@pm_ret _ _ _ _ pl_bl)) pms_nil) (@pms_one _ _ _ (@pm_if _ _ _ _ _ _ _ _ (pbc (od_eq hr.units) (pl_var 1) pl_int (nomark _)) (@pms_one _ _ _ (pm_for PassesOwn.never rfl (pil_seq (pl_cx (ok__law_more T) T.x__law_more hr (@pal_val _ _ _ _ _ _ (pl_cx (ok__law_begun T) T.x__law_begun hr (@pal_val _ _ _ _ _ _ (pl_var 0) (@pal_val _ _ _ _ _ _ pl_int pal_nil (by kernel_rfl)) (by kernel_rfl))) (@pal_val _ _ _ _ _ _ (pl_var 2) pal_nil (by kernel_rfl)) (by kernel_rfl)))) (tg_name (i:=3) sc_law.nd rfl (by walk_at "o")) (@pms_one _ _ _ (@pm_if _ _ _ _ _ _ _ _ (pb_not (pb_val (pl_cx (ok__law_let_by T) T.x__law_let_by hr (@pal_val _ _ _ _ _ _ (pl_var 3) pal_nil (by kernel_rfl))))) (@pms_one _ _ _ (@pm_ret _ _ _ _ pl_bl)) pms_nil)))) pms_nil))))) (@pms_one _ _ _ (@pm_ret _ _ _ _ pl_bl))))
  sat_law
end
def adF (i:Nat):Addr:=([60,67,74,81,88,93,107,128,121,114,100,135,142,161,149,156,168,175,182,189,201,194,208]:List Addr).getD i 0
abbrev md0:Value:=(.str "ringloads.divisors" 242)
abbrev md1:Value:=(.str "ringloads.names" 253)
abbrev md2:Value:=(.str "ringloads.rings" 292)
abbrev md3:Value:=(.str "law_ringloads_k05_rings_let_by" 344)
def fdF (i:Nat):FuncData:=[fdM "greatest_shared" s_greatest_shared md0 59,fdM "is_whole" s_is_whole md1 66,fdM "is_number_below" s_is_number_below md1 73,fdM "are_two_wholes" s_are_two_wholes md1 80,fdM "is_ratio" s_is_ratio md1 87,fdM "is_name" s_is_name md1 92,fdM "look_at_rooms" s_look_at_rooms md2 106,fdM "is_ask" s_is_ask md2 127,fdM "look_at_each_ask" s_look_at_each_ask md2 120,fdM "look_at_asks" s_look_at_asks md2 113,fdM "look_at_ring" s_look_at_ring md2 99,fdM "_law_begun" s__law_begun md3 134,fdM "_law_take" s__law_take md3 141,fdM "_law_names" s__law_names md3 160,fdM "_law_low" s__law_low md3 148,fdM "_law_amount" s__law_amount md3 155,fdM "_law_rooms" s__law_rooms md3 167,fdM "_law_ends" s__law_ends md3 174,fdM "_law_ring" s__law_ring md3 181,fdM "_law_copy" s__law_copy md3 188,fdM "_law_let_by" s__law_let_by md3 200,fdM "_law_more" s__law_more md3 193,fdM "law" s_law md3 207].getD i (fdM "law" s_law md0 0)
set_option maxHeartbeats 0 in
theorem tx {Pm:Params} {h:Heap} {mg:Str→Option Value} (X:(Hd.Kf Pm).In h) (G:h.Ns mainGlobals mg):Tx (Hd.Kf Pm) mg adF fdF where
 x_greatest_shared:=FX.mk' X G (a:=60) (c:=59) (md:=md0) (by kernel_rfl) (by kernel_rfl) (by kernel_rfl) (by kernel_rfl) fun _ _ _ _ _ _ u l=>match u,l with | [_,_],_=>rfl
 x_is_whole:=FX.mk' X G (a:=67) (c:=66) (md:=md1) (by kernel_rfl) (by kernel_rfl) (by kernel_rfl) (by kernel_rfl) fun _ _ _ _ _ _ u l=>match u,l with | [_],_=>rfl
 x_is_number_below:=FX.mk' X G (a:=74) (c:=73) (md:=md1) (by kernel_rfl) (by kernel_rfl) (by kernel_rfl) (by kernel_rfl) fun _ _ _ _ _ _ u l=>match u,l with | [_,_],_=>rfl
 x_are_two_wholes:=FX.mk' X G (a:=81) (c:=80) (md:=md1) (by kernel_rfl) (by kernel_rfl) (by kernel_rfl) (by kernel_rfl) fun _ _ _ _ _ _ u l=>match u,l with | [_],_=>rfl
 x_is_ratio:=FX.mk' X G (a:=88) (c:=87) (md:=md1) (by kernel_rfl) (by kernel_rfl) (by kernel_rfl) (by kernel_rfl) fun _ _ _ _ _ _ u l=>match u,l with | [_],_=>rfl
 x_is_name:=FX.mk' X G (a:=93) (c:=92) (md:=md1) (by kernel_rfl) (by kernel_rfl) (by kernel_rfl) (by kernel_rfl) fun _ _ _ _ _ _ u l=>match u,l with | [_],_=>rfl
 x_look_at_rooms:=FX.mk' X G (a:=107) (c:=106) (md:=md2) (by kernel_rfl) (by kernel_rfl) (by kernel_rfl) (by kernel_rfl) fun _ _ _ _ _ _ u l=>match u,l with | [_],_=>rfl
 x_is_ask:=FX.mk' X G (a:=128) (c:=127) (md:=md2) (by kernel_rfl) (by kernel_rfl) (by kernel_rfl) (by kernel_rfl) fun _ _ _ _ _ _ u l=>match u,l with | [_,_],_=>rfl
 x_look_at_each_ask:=FX.mk' X G (a:=121) (c:=120) (md:=md2) (by kernel_rfl) (by kernel_rfl) (by kernel_rfl) (by kernel_rfl) fun _ _ _ _ _ _ u l=>match u,l with | [_,_],_=>rfl
 x_look_at_asks:=FX.mk' X G (a:=114) (c:=113) (md:=md2) (by kernel_rfl) (by kernel_rfl) (by kernel_rfl) (by kernel_rfl) fun _ _ _ _ _ _ u l=>match u,l with | [_,_],_=>rfl
 l_look_at_asks:=LamT.mk' (c0:=113) (by kernel_rfl) rfl (by kernel_rfl)
 x_look_at_ring:=FX.mk' X G (a:=100) (c:=99) (md:=md2) (by kernel_rfl) (by kernel_rfl) (by kernel_rfl) (by kernel_rfl) fun _ _ _ _ _ _ u l=>match u,l with | [_],_=>rfl
 x__law_begun:=FX.mk' X G (a:=135) (c:=134) (md:=md3) (by kernel_rfl) (by kernel_rfl) (by kernel_rfl) (by kernel_rfl) fun _ _ _ _ _ _ u l=>match u,l with | [_,_],_=>rfl
 x__law_take:=FX.mk' X G (a:=142) (c:=141) (md:=md3) (by kernel_rfl) (by kernel_rfl) (by kernel_rfl) (by kernel_rfl) fun _ _ _ _ _ _ u l=>match u,l with | [_,_],_=>rfl
 x__law_names:=FX.mk' X G (a:=161) (c:=160) (md:=md3) (by kernel_rfl) (by kernel_rfl) (by kernel_rfl) (by kernel_rfl) fun _ _ _ _ _ _ u l=>match u,l with | [_,_],_=>rfl
 x__law_low:=FX.mk' X G (a:=149) (c:=148) (md:=md3) (by kernel_rfl) (by kernel_rfl) (by kernel_rfl) (by kernel_rfl) fun _ _ _ _ _ _ u l=>match u,l with | [_,_],_=>rfl
 x__law_amount:=FX.mk' X G (a:=156) (c:=155) (md:=md3) (by kernel_rfl) (by kernel_rfl) (by kernel_rfl) (by kernel_rfl) fun _ _ _ _ _ _ u l=>match u,l with | [_,_,_],_=>rfl
 x__law_rooms:=FX.mk' X G (a:=168) (c:=167) (md:=md3) (by kernel_rfl) (by kernel_rfl) (by kernel_rfl) (by kernel_rfl) fun _ _ _ _ _ _ u l=>match u,l with | [_,_,_],_=>rfl
 x__law_ends:=FX.mk' X G (a:=175) (c:=174) (md:=md3) (by kernel_rfl) (by kernel_rfl) (by kernel_rfl) (by kernel_rfl) fun _ _ _ _ _ _ u l=>match u,l with | [_,_,_,_],_=>rfl
 x__law_ring:=FX.mk' X G (a:=182) (c:=181) (md:=md3) (by kernel_rfl) (by kernel_rfl) (by kernel_rfl) (by kernel_rfl) fun _ _ _ _ _ _ u l=>match u,l with | [_,_,_,_],_=>rfl
 x__law_copy:=FX.mk' X G (a:=189) (c:=188) (md:=md3) (by kernel_rfl) (by kernel_rfl) (by kernel_rfl) (by kernel_rfl) fun _ _ _ _ _ _ u l=>match u,l with | [_],_=>rfl
 x__law_let_by:=FX.mk' X G (a:=201) (c:=200) (md:=md3) (by kernel_rfl) (by kernel_rfl) (by kernel_rfl) (by kernel_rfl) fun _ _ _ _ _ _ u l=>match u,l with | [_],_=>rfl
 x__law_more:=FX.mk' X G (a:=194) (c:=193) (md:=md3) (by kernel_rfl) (by kernel_rfl) (by kernel_rfl) (by kernel_rfl) fun _ _ _ _ _ _ u l=>match u,l with | [_,_],_=>rfl
 x_law:=FX.mk' X G (a:=208) (c:=207) (md:=md3) (by kernel_rfl) (by kernel_rfl) (by kernel_rfl) (by kernel_rfl) fun _ _ _ _ _ _ u l=>match u,l with | [_],_=>rfl
 li:=XLoad.mk' X G (by kernel_rfl) (by kernel_rfl) (by kernel_rfl) (by kernel_rfl) (by kernel_rfl) (by kernel_rfl) (by kernel_rfl) fun _ _ _ _ _ _ u l=>match u,l with | [_,_],_=>rfl
 i_NoRing:=fun_mk (oc:=.type "function") (od:=none) (osl:=#[]) (by kernel_rfl) (by kernel_rfl) (by kernel_rfl)
 c_NoRing:=XT.mk' X G (by kernel_rfl) (by kernel_rfl) (by kernel_rfl) ((fun_mk (x:="__init__") (qual:="NoRing.__init__") (st:=s_xi_NoRing) (f:=48) (oc:=.type "function") (od:=none) (osl:=#[]) (by kernel_rfl) (by kernel_rfl) (by kernel_rfl)).binds fun _ _ _ _ _ _ u l=>match u,l with | [_,_,_],_=>rfl) (by kernel_rfl) (by kernel_rfl)
 z_ValueError:=PySem.W.mg_none_of X G (by kernel_rfl)
 z_abs:=PySem.W.mg_none_of X G (by kernel_rfl)
 z_all:=PySem.W.mg_none_of X G (by kernel_rfl)
 z_bool:=PySem.W.mg_none_of X G (by kernel_rfl)
 z_enumerate:=PySem.W.mg_none_of X G (by kernel_rfl)
 z_int:=PySem.W.mg_none_of X G (by kernel_rfl)
 z_isinstance:=PySem.W.mg_none_of X G (by kernel_rfl)
 z_len:=PySem.W.mg_none_of X G (by kernel_rfl)
 z_list:=PySem.W.mg_none_of X G (by kernel_rfl)
 z_max:=PySem.W.mg_none_of X G (by kernel_rfl)
 z_min:=PySem.W.mg_none_of X G (by kernel_rfl)
 z_range:=PySem.W.mg_none_of X G (by kernel_rfl)
 z_str:=PySem.W.mg_none_of X G (by kernel_rfl)
 z_tuple:=PySem.W.mg_none_of X G (by kernel_rfl)
 g_FEWEST_TIES:=globI_mk (PySem.W.mg_of X G (v:=(.int 2 294)) (by kernel_rfl))
 g_LONGEST_NAME:=globI_mk (PySem.W.mg_of X G (v:=(.int 8 255)) (by kernel_rfl))
 g_MOST_ASKS:=globI_mk (PySem.W.mg_of X G (v:=(.int 20 298)) (by kernel_rfl))
 g_MOST_TIES:=globI_mk (PySem.W.mg_of X G (v:=(.int 12 296)) (by kernel_rfl))
theorem walkF (w:World) (mg:Str→Option Value) (fa:Addr) (h:Heap) (X:(Hd.Kf w.params).In h) (G:h.Ns mainGlobals mg) (hmg:mg "law"=some (.ref fa)) :
  ∃ fd:FuncData,(∀ (s:Shared) (u:Value),BindsTo s fd ⟨[u],[]⟩ [("_law_script",u)])∧∀ base:Heap,(Hd.Kf w.params).In base→base.Ns mainGlobals mg→FnOk PySem.Challenge.pw_ringloads_k05_rings_let_by w (Hd.Kf w.params) mg base CX0 9 fa fd ["_law_script"] (spF (Hd.Kf w.params) 1 fs_law):=by
 have T:=tx X G
 have e:=hmg.symm.trans T.x_law.m
 cases e
 exact ⟨_,fun s v=>.of_eq rfl,fun base _ _=>ok_law T⟩
theorem tabR (w:World):∀ x∈L2.lamNames,PySem.W.tabIn (Hd.Kf w.params) x=none∨((PyProof.Rows.recsOf Hd.q).find? fun e=>e.name == x).isSome=true:=by
 intro x hx
 simp only [L2.lamNames,List.mem_cons,List.not_mem_nil,or_false] at hx
 rcases hx with rfl | rfl | rfl
 ·
  exact .inr (by kernel_rfl)
 ·
  exact .inl (by kernel_rfl)
 ·
  exact .inl (by kernel_rfl)
theorem walk {l:PySem.W.OpenLaw} {q:Program} {loose:List Str} {XP:(Str→Option Value)→Heap→Prop} {YP:World→Heap→Prop} {d:DefRec} {K:Params→PySem.W.Frag} (hn:l.most=some 63) (hq:PyProof.Rows.importsNone q=true) (hdf:d.params.defaults=[])
  (hY:∀ (w:World) (h:Heap),YP w h→(K w.params).In h) (hto:∀ w:World,L2.tabsOk (K w.params)=true) (hrc:∀ (w:World),∀ x∈L2.lamNames,PySem.W.tabIn (K w.params) x=none∨((PyProof.Rows.recsOf q).find? fun e=>e.name == x).isSome=true)
  (F:∀ (w:World) (mg:Str→Option Value) (fa:Addr) (h:Heap),(K w.params).In h→h.Ns mainGlobals mg→mg d.name=some (.ref fa) →
   ∃ fd:FuncData,(∀ (s:Shared) (u:Value),BindsTo s fd ⟨[u],[]⟩ [("_law_script",u)])∧∀ base:Heap,(K w.params).In base→base.Ns mainGlobals mg→FnOk l.prog w (K w.params) mg base CX0 9 fa fd ["_law_script"] (spF (K w.params) 1 fs_law)) :
  PySem.W.WalkO q loose XP YP l.row.toRowW d [] (fun f vs=>PySem.call f vs) :=
 L2.walk_of (n:=63) (k:=9) (x:="_law_script") (CX:=fun _=>CX0) (sp:=fun w=>spF (K w.params) 1 fs_law) hn hq (by decide) hdf ⟨rfl,by decide,by decide,rfl⟩ hY hto hrc F (fun _ H a ns hl hO hS=>law_start hl hO hS (law_holds hl)) fun _ _ _ _ _ z=>z
end My
open PySem PySem.W PyProof.Rows
abbrev PySem.W.Fast.tw16918689198430752676:PySem.Program:=PySem.Challenge.pw_ringloads_k05_rings_let_by
theorem PySem.W.Fast.te16918689198430752676:PySem.Challenge.pw_ringloads_k05_rings_let_by=PySem.W.Fast.tw16918689198430752676:=rfl
set_option maxRecDepth 100000 in
set_option maxHeartbeats 0 in
theorem PySem.Challenge.cw_ringloads_k05_rings_let_by_holds : PySem.Challenge.rw_ringloads_k05_rings_let_by.Holds := by
 w_on; o_law
 refine PySem.W.holds_open (q:=Hd.q) (loose:=Hd.loose) (Xt:=Hd.Xt) (XP:=XL Hd.q []) (Yf:=Hook.obs Hd.Hk) (Ya:=Hook.val Hd.Hk) (YP:=Hook.says Hd.Hk) (N:=_) Hd.left (Hook.of Hd.Hk) (Hook.keeps Hd.Hk) (fun s e=>xl_of s (Bool.and_eq_true_iff.mp e).1) XL.keeps (by rfl) (by rfl) (by rfl) (fun s e=>recFacts_of (Bool.and_eq_true_iff.mp e).2) (by rfl) (by assumption) (by decide +kernel) ⟨rfl,rfl,rfl,rfl,rfl,by decide +kernel⟩ ?hw ?hc
 case hw=>w_witness2
 case hc=>exact My.walk (l:=PySem.Challenge.rw_ringloads_k05_rings_let_by) (K:=Hd.Kf) rfl (by decide +kernel) rfl (fun w h Y=>PySem.W.kIn_of Y) (fun w=>by kernel_rfl) My.tabR My.walkF
