import PyProof.Rows.All
import Wide.All
import OpenK.AllK
import Wide.FinOn
import Lean
import PyProof.EqAt
import PyProof.EqKinds
import PyProof.TupleCall
import PyProof.ExcArgs
import KE.KIsAll
import PyProof.ExcInit
import PyProof.StationsW
import PyProof.NsDelKeeps
import PyProof.RulesAs
import PyProof.PassesOwn
import PyProof.ExcBaseAll.ValueError
import PyProof.InstStoreFacts
import PyProof.Rows.EqDataRows
import PyProof.ReprRoads
import PyProof.Rows.Range3
import PyProof.ConsumeWalk
import PyProof.FString5
import PyProof.ReprLen
import PyProof.Rows.TupAdd
import PyProof.Rows.RuleIs
import PyProof.ListNew
import KE.KRevIter
import PyProof.Rows.SeqMore2
import PyProof.ListRange
import KE.KEqDict
import PyProof.NeKinds
import PyProof.CallStr
import PySem.Challenge.RW_ringloads_k19_whole_tables_and_extras
set_option Elab.async false
set_option linter.all false
set_option maxRecDepth 100000
namespace L2
open PySem PySem.Spec PyProof.Rows
abbrev Key:=Sum Int Str
def keyIs:Key→Value→Bool
 | .inl k,v=>Value.isInt k v
 | .inr x,v=>Value.isStrOf x v
def keyH (w:World):Key→Int
 | .inl k=>hashInt k
 | .inr x=>hashStr w x
theorem keyIs_shape:∀ {k:Key} {v:Value},keyIs k v=true→(∃ i t,k=Sum.inl i∧v=Value.int i t)∨(∃ x t,k=Sum.inr x∧v=Value.str x t)
 | .inl i,v,h=>by
  obtain ⟨t,e⟩:=Value.isInt_shape (k:=i) (v:=v) h
  exact .inl ⟨i,t,rfl,e⟩
 | .inr x,v,h=>by
  obtain ⟨t,e⟩:=Value.isStrOf_shape (x:=x) (v:=v) h
  exact .inr ⟨x,t,rfl,e⟩
theorem keyIs_int (i:Int) (t:Tok):keyIs (.inl i) (.int i t)=true:=by simp [keyIs,Value.isInt]
theorem keyIs_str (x:Str) (t:Tok):keyIs (.inr x) (.str x t)=true:=by simp [keyIs,Value.isStrOf]
theorem key_ll (a b:Int):decide ((Sum.inl a:Key)=Sum.inl b)=(a == b):=by
 by_cases e:a=b
 ·
  subst e; simp
 ·
  have h:¬ (Sum.inl a:Key)=Sum.inl b:=fun q=>e (Sum.inl.inj q)
  rw [decide_eq_false h]
  exact (beq_eq_false_iff_ne.mpr e).symm
theorem key_rr (a b:Str):decide ((Sum.inr a:Key)=Sum.inr b)=decide (a=b):=by
 by_cases e:a=b
 ·
  subst e; simp
 ·
  have h:¬ (Sum.inr a:Key)=Sum.inr b:=fun q=>e (Sum.inr.inj q)
  rw [decide_eq_false h,decide_eq_false e]
theorem key_lr (a:Int) (b:Str):decide ((Sum.inl a:Key)=Sum.inr b)=false:=decide_eq_false (fun q=>nomatch q)
theorem key_rl (a:Str) (b:Int):decide ((Sum.inr a:Key)=Sum.inl b)=false:=decide_eq_false (fun q=>nomatch q)
def mixKind (prog:Program) (w:World):PySem.KeyKind prog w Key where
 is:=keyIs
 hash:=keyH w
 inj:=fun v a b ha hb=>by
  rcases keyIs_shape ha with ⟨i,t,rfl,rfl⟩ | ⟨x,t,rfl,rfl⟩
  ·
   rcases keyIs_shape hb with ⟨j,u,rfl,e⟩ | ⟨y,u,rfl,e⟩
   ·
    injection e with e1 _; rw [e1]
   ·
    exact nomatch e
  ·
   rcases keyIs_shape hb with ⟨j,u,rfl,e⟩ | ⟨y,u,rfl,e⟩
   ·
    exact nomatch e
   ·
    injection e with e1 _; rw [e1]
 byValue:=fun k v h=>by
  rcases keyIs_shape h with ⟨i,t,rfl,rfl⟩ | ⟨x,t,rfl,rfl⟩ <;> rfl
 pyHash:=fun hv h=>by
  rcases keyIs_shape hv with ⟨i,t,rfl,rfl⟩ | ⟨x,t,rfl,rfl⟩
  ·
   exact wpAny_pyHash_int h
  ·
   exact wpAny_pyHash_str h
 eqBool:=fun hu hv h=>by
  rcases keyIs_shape hu with ⟨i,t,rfl,rfl⟩ | ⟨x,t,rfl,rfl⟩
  ·
   rcases keyIs_shape hv with ⟨j,u,rfl,rfl⟩ | ⟨y,u,rfl,rfl⟩
   ·
    rw [key_ll] at h; exact wpAny_eqBool_int h
   ·
    rw [key_lr] at h; exact SeqAt.EqAt.int_str i t y u _ _ _ _ h
  ·
   rcases keyIs_shape hv with ⟨j,u,rfl,rfl⟩ | ⟨y,u,rfl,rfl⟩
   ·
    rw [key_rl] at h; exact SeqAt.EqAt.str_int x t j u _ _ _ _ h
   ·
    rw [key_rr] at h; exact wpAny_eqBool_str h
 «strs»:=fun k x t v h=>by
  rcases keyIs_shape h with ⟨i,u,rfl,e⟩ | ⟨y,u,rfl,e⟩
  ·
   exact nomatch e
  ·
   injection e with e1 _
   subst e1
   cases v <;> rfl
theorem mixKind_int (prog:Program) (w:World) (i:Int) (t:Tok):(mixKind prog w).is (.inl i) (.int i t)=true:=keyIs_int i t
theorem mixKind_str (prog:Program) (w:World) (x:Str) (t:Tok):(mixKind prog w).is (.inr x) (.str x t)=true:=keyIs_str x t
end L2
namespace L2
open PySem PySem.Spec PyProof.Rows
inductive V where
 | non | bl (b:Bool) | int (i:Int) | str (x:Str) | byt (b:Array UInt8) | flt (b:UInt64) | ref (a:Addr) | ty (n:String)
 deriving DecidableEq
def RelV:V→Value→Prop
 | .non,u=>u=Value.none
 | .bl b,u=>u=Value.bool b
 | .int i,u=>∃ t,u=Value.int i t
 | .str x,u=>∃ t,u=Value.str x t
 | .byt b,u=>∃ t,u=Value.bytes b t
 | .flt b,u=>∃ t,u=Value.float b t
 | .ref a,u=>u=Value.ref a
 | .ty n,u=>u=Value.type n
abbrev Vals:List V→List Value→Prop:=Paired RelV
theorem Vals.length {xs:List V} {us:List Value} (r:Vals xs us):xs.length=us.length:=Paired.length r
theorem Vals.get:∀ {xs:List V} {us:List Value} {i:Nat} {x:V},Vals xs us→xs[i]?=some x→∃ u,us[i]?=some u∧RelV x u
 | _,_,_,_,.nil,e=>by simp at e
 | _,_,0,_,.cons r _,e=>by simp at e; subst e; exact ⟨_,rfl,r⟩
 | _,_,i+1,x,.cons _ t,e=>by
  obtain ⟨u,h1,h2⟩:=Vals.get (i:=i) (x:=x) t (by simpa using e)
  exact ⟨u,by simpa using h1,h2⟩
theorem Vals.set {x:V} {u:Value} (r:RelV x u):∀ {xs:List V} {us:List Value} (i:Nat),Vals xs us→Vals (xs.set i x) (us.set i u)
 | _,_,_,.nil=>.nil
 | _,_,0,.cons _ t=>.cons r t
 | _,_,i+1,.cons q t=>.cons q (Vals.set r i t)
theorem Vals.append:∀ {xs ys:List V} {us ws:List Value},Vals xs us→Vals ys ws→Vals (xs++ys) (us++ws)
 | _,_,_,_,.nil,s=>s
 | _,_,_,_,.cons r t,s=>.cons r (Vals.append t s)
theorem Vals.take:∀ {xs:List V} {us:List Value} (n:Nat),Vals xs us→Vals (xs.take n) (us.take n)
 | _,_,0,_=>.nil
 | _,_,_+1,.nil=>.nil
 | _,_,n+1,.cons r t=>.cons r (Vals.take n t)
theorem Vals.drop:∀ {xs:List V} {us:List Value} (n:Nat),Vals xs us→Vals (xs.drop n) (us.drop n)
 | _,_,0,r=>r
 | _,_,_+1,.nil=>.nil
 | _,_,n+1,.cons _ t=>Vals.drop n t
def RelO:Option V→Option Value→Prop
 | some v,some u=>RelV v u
 | none,none=>True
 | _,_=>False
def KV {κ:Type}:List (κ×V)→List (κ×Value)→Prop:=Paired fun (p:κ×V) (q:κ×Value)=>p.1=q.1∧RelV p.2 q.2
def kV:Key→V
 | .inl i=>.int i
 | .inr x=>.str x
inductive HO where
 /-- a list -/
 | lst (xs:List V)
 /-- a tuple (never changes) -/
 | tup (xs:List V)
 /-- a dict whose keys are ints and texts; one whose keys are tuples of ints and texts (the empty one is both) -/
 | dK (kvs:List (Key×V)) | dT (kvs:List (List Key×V))
 /-- a set of ints: its members,its size -/
 | set (S:Int→Bool) (n:Nat)
 /-- an instance of the class at C,its dict at dx,its attributes -/
 | ins (C dx:Addr) (fs:List (Str×V))
 /-- the dict of the instance at x -/
 | own (x:Addr)
 /-- the dict of an exception -/
 | xd (fs:List (Str×V))
 /-- a bound method,f of x -/
 | met (f x:Addr)
 /-- a range object lo,lo+1,.. below hi -/
 | rng (lo hi:Int)
 /-- a thing that is known to the object (the script; a dict while a loop walks it): read,never written while it is so -/
 | frz (o:Obj) (u:HO)
 /-- a code object's table -/
 | tbl (ps:Array Value)
 /-- any other thing,by what is true of its one object (a def of one's own: SetO a S n:=HO.ext fun h=>..) -/
 | ext (φ:Heap→Prop)
abbrev Hp:=Addr→Option HO
def upd (H:Hp) (a:Addr) (o:HO):Hp:=fun b=>if b=a then some o else H b
theorem upd_same {H:Hp} {a:Addr} {o:HO}:upd H a o a=some o:=by unfold upd; rw [if_pos rfl]
theorem upd_ne {H:Hp} {a b:Addr} {o:HO} (h:b≠a):upd H a o b=H b:=by unfold upd; rw [if_neg h]
theorem ne_of_none {H:Hp} {a b:Addr} {o:HO} (h:H a=some o) (h':H b=none):a≠b:=by
 intro e; subst e; rw [h] at h'; cases h'
section
variable (P:Program) (w:World)
def ObjOk (H:Hp) (h:Heap) (a:Addr):HO→Prop
 | .lst xs=>xs.length≤sizeLine∧∃ (its:List Value) (n:Nat),Vals xs its∧h.get? a=some { cls:=.type "list",data:=.seq its.toArray n }
 | .tup xs=>xs.length≤sizeLine∧∃ its:List Value,Vals xs its∧IsTup h a its.toArray
 | .dK kvs=>kvs.length≤sizeLine∧(a == sysModules)=false∧∃ vs,KV kvs vs∧h.DictOf (mixKind P w) a vs
 | .dT kvs=>kvs.length≤sizeLine∧(a == sysModules)=false∧∃ xs:List (List Key×Addr×Value),
   Paired (fun (p:List Key×V) (q:List Key×Addr×Value)=>p.1=q.1∧H q.2.1=some (.tup (p.1.map kV))∧RelV p.2 q.2.2) kvs xs ∧
   ∃ o es ep,h.get? a=some o∧o.ExactDict∧o.data=.dict es ep∧es.toList=xs.map (entryOfKey (tupleKind (mixKind P w)))∧(xs.map (·.1)).Nodup
 | .set S n=>h.SetOf (intKind P w) a S n
 | .ins C dx fs=>H dx=some (.own a)∧fs.length≤1000∧dx≠a∧h.get? a=some (PySem.W.instObj C dx) ∧
   ∃ mA,h.Ns1 dx mA∧(∀ f,RelO (fs.lookup f) (mA f))∧PySem.Within mA (fs.map (·.1))
 | .own _=>∃ o,h.get? a=some o
 | .xd fs=>∃ mA,h.Ns1 a mA∧∀ f,RelO (fs.lookup f) (mA f)
 | .rng lo hi=>∃ t u v,h.get? a=some { cls:=.type "range",data:=.fields #[.int lo t,.int hi u,.int 1 v] }
 | .frz o u=>h.get? a=some o∧ObjOk H h a u
 | .tbl ps=>h.get? a=some { cls:=.none,data:=.fields ps }
 | .met f x=>h.get? a=some (PySem.W.methodObj (.ref f) (.ref x))
 | .ext φ=>φ h∧(∃ o,h.get? a=some o)∧∀ h1 h2:Heap,φ h1→(∀ o,h1.get? a=some o→h2.get? a=some o)→φ h2
def HOk (H:Hp) (h:Heap):Prop:=∀ a o,H a=some o→ObjOk P w H h a o
end
section
variable {P:Program} {w:World} {H H':Hp} {h h':Heap} {a:Addr} {o:HO}
theorem ObjOk.lt (x:ObjOk P w H h a o):a < h.objs.size:=by
 cases o with
 | lst xs=>obtain ⟨_,_,_,_,e⟩:=x; exact Heap.lt_size e
 | tup xs=>obtain ⟨_,_,_,p⟩:=x; exact p.lt
 | dK kvs=>obtain ⟨_,_,_,_,o,_,_,e,_⟩:=x; exact Heap.lt_size e
 | dT kvs=>obtain ⟨_,_,_,_,o,_,_,e,_⟩:=x; exact Heap.lt_size e
 | set S n=>obtain ⟨o,_,_,_,e,_⟩:=x; exact Heap.lt_size e
 | ins C dx fs=>obtain ⟨_,_,_,e,_⟩:=x; exact Heap.lt_size e
 | own y=>obtain ⟨_,e⟩:=x; exact Heap.lt_size e
 | xd fs=>obtain ⟨_,⟨_,_,_,e,_⟩,_⟩:=x; exact Heap.lt_size e
 | rng lo hi=>obtain ⟨_,_,_,e⟩:=x; exact Heap.lt_size e
 | frz ob u=>obtain ⟨e,_⟩:=x; exact Heap.lt_size e
 | tbl ps=>exact Heap.lt_size (show h.get? a=some _ from x)
 | met f y=>exact Heap.lt_size (show h.get? a=some _ from x)
 | ext φ=>obtain ⟨_,⟨_,e⟩,_⟩:=x; exact Heap.lt_size e
theorem Paired.mapP {α β:Type} {F G:α→β→Prop}:∀ {l₁:List α} {l₂:List β},Paired F l₁ l₂→(∀ a b,F a b→G a b)→Paired G l₁ l₂
 | _,_,.nil,_=>.nil
 | _,_,.cons r t,f=>.cons (f _ _ r) (Paired.mapP t f)
theorem ObjOk.stay (x:ObjOk P w H h a o) (k:∀ b u,(b=a∨H b=some (.own a))→h.get? b=some u→h'.get? b=some u)
  (ho:∀ b,H b=some (.own a)→H' b=some (.own a)) (ht:∀ b xs,H b=some (.tup xs)→H' b=some (.tup xs)):ObjOk P w H' h' a o:=by
 induction o with
 | lst xs=>obtain ⟨z,its,n,r,e⟩:=x; exact ⟨z,its,n,r,k _ _ (.inl rfl) e⟩
 | tup xs=>obtain ⟨z,its,r,ob,e,c⟩:=x; exact ⟨z,its,r,ob,k _ _ (.inl rfl) e,c⟩
 | dK kvs=>obtain ⟨z,y,vs,r,ob,es,ep,e,c⟩:=x; exact ⟨z,y,vs,r,ob,es,ep,k _ _ (.inl rfl) e,c⟩
 | dT kvs =>
  obtain ⟨z,y,xs,r,ob,es,ep,e,c⟩:=x
  exact ⟨z,y,xs,Paired.mapP r fun p q z=>⟨z.1,ht _ _ z.2.1,z.2.2⟩,ob,es,ep,k _ _ (.inl rfl) e,c⟩
 | set S n=>obtain ⟨ob,es,ep,t,e,c⟩:=x; exact ⟨ob,es,ep,t,k _ _ (.inl rfl) e,c⟩
 | ins C dx fs =>
  obtain ⟨d,z,ne,e,mA,⟨od,es,ep,e2,c⟩,r⟩:=x
  exact ⟨ho _ d,z,ne,k _ _ (.inl rfl) e,mA,⟨od,es,ep,k _ _ (.inr d) e2,c⟩,r⟩
 | own y=>obtain ⟨ob,e⟩:=x; exact ⟨ob,k _ _ (.inl rfl) e⟩
 | xd fs=>obtain ⟨mA,⟨od,es,ep,e,c⟩,r⟩:=x; exact ⟨mA,⟨od,es,ep,k _ _ (.inl rfl) e,c⟩,r⟩
 | rng lo hi=>obtain ⟨t,u,v,e⟩:=x; exact ⟨t,u,v,k _ _ (.inl rfl) e⟩
 | frz ob u ih=>obtain ⟨e,q⟩:=x; exact ⟨k _ _ (.inl rfl) e,ih q⟩
 | tbl ps =>
  have e:h.get? a=some { cls:=.none,data:=.fields ps }:=x
  show h'.get? a=some { cls:=.none,data:=.fields ps }
  exact k a _ (.inl rfl) e
 | met f y =>
  have e:h.get? a=some (PySem.W.methodObj (.ref f) (.ref y)):=x
  show h'.get? a=some (PySem.W.methodObj (.ref f) (.ref y))
  exact k a _ (.inl rfl) e
 | ext φ=>obtain ⟨p,⟨o,e⟩,st⟩:=x; exact ⟨st _ _ p fun o q=>k _ _ (.inl rfl) q,⟨o,k _ _ (.inl rfl) e⟩,st⟩
theorem HOk.lt (x:HOk P w H h) (e:H a=some o):a < h.objs.size:=(x a o e).lt
theorem HOk.fresh (x:HOk P w H h) (e:h.objs.size≤a):H a=none:=by
 cases q:H a with
 | none=>rfl
 | some u=>exact absurd (Nat.lt_of_lt_of_le (x.lt q) e) (Nat.lt_irrefl _)
theorem HOk.kept (x:HOk P w H h) (k:∀ b u,h.get? b=some u→h'.get? b=some u):HOk P w H h':=fun a o e =>
 (x a o e).stay (fun b u _ q=>k b u q) (fun _ q=>q) fun _ _ q=>q
theorem HOk.laid (x:HOk P w H h) (k:∀ b u,h.get? b=some u→h'.get? b=some u) (hp:h.objs.size≤a) (new:ObjOk P w (upd H a o) h' a o):HOk P w (upd H a o) h':=fun b u e=>by
 have hn:=x.fresh hp
 by_cases hb:b=a
 ·
  subst hb; rw [upd_same] at e; cases e; exact new
 ·
  rw [upd_ne hb] at e
  exact (x b u e).stay (fun c v _ q=>k c v q) (fun c q=>by rw [upd_ne (ne_of_none q hn)]; exact q) fun c xs q=>by rw [upd_ne (ne_of_none q hn)]; exact q
end
def Rd (H:Hp) (a:Addr) (u:HO):Prop:=H a=some u∨∃ o,H a=some (.frz o u)
theorem Rd.ok {P:Program} {w:World} {H:Hp} {h:Heap} {a:Addr} {u:HO} (r:Rd H a u) (x:HOk P w H h):ObjOk P w H h a u:=by
 rcases r with r | ⟨o,r⟩
 ·
  exact x a u r
 ·
  obtain ⟨_,q⟩:=x a _ r
  exact q
def Mut:Option HO→Prop
 | some (.lst _)=>True
 | some (.dK _)=>True
 | some (.dT _)=>True
 | some (.set _ _)=>True
 | some (.ins _ _ _)=>True
 | some (.ext _)=>True
 | _=>False
section
variable {P:Program} {w:World} {H:Hp} {h h':Heap} {x e:Addr} {o':HO}
theorem HOk.write (ok:HOk P w H h) (mu:Mut (H x)) (he:e=x∨H e=some (.own x)) (k:∀ b u,b≠e→h.get? b=some u→h'.get? b=some u) (heo:∃ u,h'.get? e=some u)
  (new:ObjOk P w (upd H x o') h' x o'):HOk P w (upd H x o') h':=fun b u q=>by
 have nown:∀ c y,H c=some (.own y)→c≠x:=fun c y r z=>by subst z; rw [r] at mu; exact mu
 have ntup:∀ c xs,H c=some (.tup xs)→c≠x:=fun c xs r z=>by subst z; rw [r] at mu; exact mu
 by_cases hb:b=x
 ·
  subst hb; rw [upd_same] at q; cases q; exact new
 ·
  rw [upd_ne hb] at q
  by_cases hbe:b=e
  ·
   have q':H b=some (.own x):=by
    rcases he with z | z
    ·
     exact absurd (hbe.trans z) hb
    ·
     rw [hbe]; exact z
   rw [q] at q'; cases q'
   obtain ⟨v,hv⟩:=heo
   exact ⟨v,by rw [hbe]; exact hv⟩
  ·
   refine (ok b u q).stay (fun c v hc r=>k c v ?_ r) (fun c r=>by rw [upd_ne (nown c b r)]; exact r) fun c xs r=>by rw [upd_ne (ntup c xs r)]; exact r
   rcases hc with rfl | hc
   ·
    exact hbe
   ·
    rintro rfl
    rcases he with z | z
    ·
     exact nown c b hc z
    ·
     rw [hc] at z; cases z; exact hb rfl
end
structure Un (fs ex:List Addr) (H H':Hp) (h h':Heap):Prop where
 keep:∀ b o,h.get? b=some o→H b=none→b∉fs→b∉ex→h'.get? b=some o
 slot:∀ b o,h.get? b=some o→H b=none→b∈fs→b∉ex→∃ sl,h'.get? b=some { o with slots:=sl }
 free:∀ b o,h.get? b=some o→H b=none→b∉ex→H' b=none
 there:∀ b o,h.get? b=some o→b∉ex→∃ o',h'.get? b=some o'
 tups:∀ b xs,H b=some (.tup xs)→H' b=some (.tup xs)
 frzs:∀ b o u,H b=some (.frz o u)→H' b=some (.frz o u)
 tbls:∀ b ps,H b=some (.tbl ps)→∃ more,H' b=some (.tbl (ps++more))
section
variable {fs fs' ex ex':List Addr} {H H1 H2:Hp} {h h1 h2 h':Heap} {a x e:Addr} {o:HO}
theorem Un.any (u:Un fs ex H H1 h h1) {b:Addr} {ob:Obj} (q:h.get? b=some ob) (n:H b=none) (hx:b∉ex):∃ sl,h1.get? b=some { ob with slots:=sl }:=by
 by_cases hb:b∈fs
 ·
  exact u.slot b ob q n hb hx
 ·
  exact ⟨ob.slots,u.keep b ob q n hb hx⟩
theorem Un.kept (k:∀ b u,h.get? b=some u→h'.get? b=some u):Un fs ex H H h h' :=
 ⟨fun b ob q _ _ _=>k b ob q,fun b ob q _ _ _=>⟨ob.slots,k b ob q⟩,fun _ _ _ n _=>n,fun b ob q _=>⟨ob,k b ob q⟩,fun _ _ q=>q,fun _ _ _ q=>q,fun _ ps q=>⟨#[],by rw [q]; simp⟩⟩
theorem Un.refl:Un fs ex H H h h:=Un.kept fun _ _ q=>q
theorem Un.laid (k:∀ b u,h.get? b=some u→h'.get? b=some u) (hp:h.objs.size≤a) (hn:H a=none):Un fs ex H (upd H a o) h h' where
 keep:=fun b u q _ _ _=>k b u q
 slot:=fun b u q _ _ _=>⟨u.slots,k b u q⟩
 free:=fun b u q n _=>by rw [upd_ne (Nat.ne_of_lt (Nat.lt_of_lt_of_le (Heap.lt_size q) hp))]; exact n
 there:=fun b u q _=>⟨u,k b u q⟩
 tups:=fun b xs q=>by rw [upd_ne (ne_of_none q hn)]; exact q
 frzs:=fun b u xs q=>by rw [upd_ne (ne_of_none q hn)]; exact q
 tbls:=fun b ps q=>⟨#[],by rw [upd_ne (ne_of_none q hn),q]; simp⟩
theorem Un.write (mu:Mut (H x)) (he:e=x∨H e=some (.own x)) (k:∀ b u,b≠e→h.get? b=some u→h'.get? b=some u) (heo:∃ u,h'.get? e=some u):Un fs ex H (upd H x o) h h':=by
 have hx:∀ b,H b=none→b≠x:=fun b n z=>by subst z; rw [n] at mu; exact mu
 have hb:∀ b,H b=none→b≠e:=fun b n z=>by
  subst z
  rcases he with r | r
  ·
   exact hx b n r
  ·
   rw [n] at r; cases r
 have hm:∀ b u,H b=some u→¬ Mut (some u)→b≠x:=fun b u q nm z=>by subst z; rw [q] at mu; exact nm mu
 refine ⟨fun b u q n _ _=>k b u (hb b n) q,fun b u q n _ _=>⟨u.slots,k b u (hb b n) q⟩,fun b u q n _=>by rw [upd_ne (hx b n)]; exact n,fun b u q _=>?_,
  fun b xs q=>by rw [upd_ne (hm b _ q fun z=>z)]; exact q,fun b u xs q=>by rw [upd_ne (hm b _ q fun z=>z)]; exact q,fun b ps q=>⟨#[],by rw [upd_ne (hm b _ q fun z=>z),q]; simp⟩⟩
 by_cases hbe:b=e
 ·
  subst hbe; exact heo
 ·
  exact ⟨u,k b u hbe q⟩
theorem Un.mono (u:Un fs ex H H1 h h1) (hs:∀ b∈fs,b∈fs') (hx:∀ b∈ex,b∈ex'):Un fs' ex' H H1 h h1 :=
 ⟨fun b ob q n hb he=>u.keep b ob q n (fun z=>hb (hs b z)) fun z=>he (hx b z),fun _ _ q n _ he=>u.any q n fun z=>he (hx _ z),fun b ob q n he=>u.free b ob q n fun z=>he (hx b z),fun b ob q he=>u.there b ob q fun z=>he (hx b z),u.tups,u.frzs,u.tbls⟩
end
def trk (h:Heap) (H:Hp):List Addr:=(List.range h.objs.size).filter fun a=>(H a).isSome
def hidT (h:Heap) (H:Hp):Heap:=PySem.W.hideAll h (trk h H)
theorem hidT_size (h:Heap) (H:Hp):(hidT h H).objs.size=h.objs.size:=PySem.W.hideAll_size _ _
theorem hidT_get {h:Heap} {H:Hp} {b:Addr} {o:Obj} (e:h.get? b=some o) (n:H b=none):(hidT h H).get? b=some o :=
 PySem.W.hideAll_get _ e fun hm=>by
  have q:(H b).isSome=true:=(List.mem_filter.mp hm).2
  rw [n] at q; simp at q
theorem of_hidT {h:Heap} {H:Hp} {b:Addr} {o:Obj} (e:(hidT h H).get? b=some o):h.get? b=some o∧H b=none:=by
 have e':h.get? b=some o:=PySem.W.of_hideAll (trk h H) e
 refine ⟨e',?_⟩
 cases q:H b with
 | none=>rfl
 | some x =>
  have hm:b∈trk h H:=List.mem_filter.mpr ⟨List.mem_range.mpr (Heap.lt_size e'),by simp [q]⟩
  have z:(hidT h H).get? b=none:=PySem.W.hideAll_none (trk h H) hm
  rw [z] at e; cases e
def allNews (g h:Heap) (L:Addr):List (Addr×Obj):=(List.range h.objs.size).filterMap fun a=>if a=L∨(g.get? a).isSome=true then none else (h.get? a).map fun o=>(a,o)
def rest (g h:Heap) (L d:Addr):List (Addr×Obj):=(allNews g h L).filter fun p=>decide (p.1≠d)
end L2
namespace L2
open PySem PySem.Spec PyProof.Rows
structure Mod (K:PySem.W.Frag) (mg:Str→Option Value) (base:Heap):Prop where
 kin:K.In base
 glob:base.Ns mainGlobals mg
 blt:∃ mb,base.Ns builtinsNs mb∧∀ x:Str,x≠"__name__"→mb x=bootBuiltins x
 nolimit:base.NoLimit
 sysm:∃ mm,base.Ns sysModules mm
/-- the context: a def's body (or a comprehension's block) running. base: fixed through the whole law; s₀,H₀: the entry; outer: the frames whose slots others may change (a def's callers); stack: all frames that run;
  ex: iterators that were made ahead of the entry and are walked here (a comprehension's); fn: the names whose cells were made at the entry (a def: all; a comprehension's block: its own); calm: not within an except suite; pn: pins that every state bears; xe: what is wanted of an exception that leaves the code -/
structure Cx where
 prog:Program
 w:World
 K:PySem.W.Frag
 mg:Str→Option Value
 base:Heap
 A:Around
 N:List Str
 s₀:Shared
 H₀:Hp
 env:Env
 outer:List Env
 stack:List Env
 ex:List Addr
 fn:Str→Bool
 calm:Bool
 pn:List (Addr×Obj)
 xe:Value→Shared→Prop
def frs (l:List Env):List Addr:=l.filterMap (·.frame)
abbrev Cx.fs (X:Cx):List Addr:=frs X.outer
def Vis (sc:Scope) (x:Str):Prop:=sc.names.lookup x=some .local∨sc.names.lookup x=some .cell∨sc.names.lookup x=some .free
def Loc (sc:Scope) (x:Str):Prop:=sc.names.lookup x=some .local∨sc.names.lookup x=some .cell
def Look (env:Env) (h:Heap) (m:Str→Option Value) (x:Str) (u:Value):Prop :=
 (env.kindOf x=some .local∧m x=some u)∨((env.kindOf x=some .cell∨env.kindOf x=some .free)∧∃ c,env.cells.lookup x=some c∧h.IsCell c (some u))
structure Cx.Ok (X:Cx):Prop where
 mod:Mod X.K X.mg X.base
 kind:X.env.scope.kind=.function
 glob:X.env.globals=mainGlobals
 blt:X.env.builtins=builtinsNs
 above:X.s₀.heap.objs.size≤X.env.locals
 inj:∀ x y c,X.env.cells.lookup x=some c→X.env.cells.lookup y=some c→x=y
 has:∀ x,(X.env.kindOf x=some .cell∨X.env.kindOf x=some .free)→∃ c,X.env.cells.lookup x=some c
 cab:∀ x c,X.fn x=true→X.env.cells.lookup x=some c→X.s₀.heap.objs.size≤c
 hd:X.calm=true→X.A.handled=none
 frames:X.A.frames=some X.stack
 stk:X.stack=X.outer∨(X.stack=X.env::X.outer∧X.env.frame=some X.env.locals)
 exf:∀ b∈X.ex,b≠X.env.locals∧∀ x c,X.env.cells.lookup x=some c→c≠b
 bs:∀ b o,X.base.get? b=some o→X.s₀.heap.get? b=some o∧X.H₀ b=none
 bsz:X.base.objs.size≤X.s₀.heap.objs.size
 noex:∀ b o,X.base.get? b=some o→b∉X.ex
 exfs:∀ b∈X.ex,b∉X.fs
 funs:X.s₀.heap.FunFrames X.base X.outer
 frf:∀ b∈X.fs,X.H₀ b=none
structure Inv (X:Cx) (pins:List (Addr×Obj)) (σ:List (Option V)) (H:Hp) (s:Shared):Prop where
 ok:X.Ok
 os:s.os=X.s₀.os
 bare:AllBare s.gens
 base:Un X.fs X.ex X.H₀ H X.s₀.heap s.heap
 loc:∃ m,s.heap.Ns X.env.locals m∧∀ (i:Nat) (x:Str) (v:V),X.N[i]?=some x→σ[i]?=some (some v)→Vis X.env.scope x→∃ u,RelV v u∧Look X.env s.heap m x u
 cell:∀ x c,X.env.cells.lookup x=some c→∃ v,s.heap.IsCell c v
 free:H X.env.locals=none
 freeC:∀ x c,X.env.cells.lookup x=some c→H c=none
 pin:∀ p∈X.pn++pins,s.heap.get? p.1=some p.2∧H p.1=none∧p.1≠X.env.locals∧p.1∉X.fs∧∀ v,p.2.data≠.cell v
 hok:HOk X.prog X.w H s.heap
 len:σ.length=X.N.length
section
variable {X:Cx} {pins:List (Addr×Obj)} {σ:List (Option V)} {H H':Hp} {s:Shared} {h':Heap}
theorem Cx.Ok.nofr (ok:X.Ok) {b:Addr} {o:Obj} (e:X.base.get? b=some o):b∉X.fs:=fun hb=>by
 have:=(ok.funs.mem hb).1
 rw [e] at this; cases this
theorem Inv.bs (I:Inv X pins σ H s):∀ b o,X.base.get? b=some o→s.heap.get? b=some o∧H b=none:=fun b o e =>
 ⟨I.base.keep b o (I.ok.bs b o e).1 (I.ok.bs b o e).2 (I.ok.nofr e) (I.ok.noex b o e),I.base.free b o (I.ok.bs b o e).1 (I.ok.bs b o e).2 (I.ok.noex b o e)⟩
theorem Inv.bk (I:Inv X pins σ H s):∀ b o,X.base.get? b=some o→s.heap.get? b=some o:=fun b o e=>(I.bs b o e).1
theorem Inv.mod (I:Inv X pins σ H s):Mod X.K X.mg X.base:=I.ok.mod
theorem Inv.kIn (I:Inv X pins σ H s):X.K.In s.heap:=I.ok.mod.kin.keeps I.bk
theorem Inv.lt (I:Inv X pins σ H s):X.env.locals < s.heap.objs.size:=let ⟨_,hn,_⟩:=I.loc; hn.lt
theorem Inv.sz (I:Inv X pins σ H s):X.s₀.heap.objs.size≤s.heap.objs.size:=Nat.le_trans I.ok.above (Nat.le_of_lt I.lt)
theorem Inv.nofs (I:Inv X pins σ H s) {a:Addr} (h:s.heap.objs.size≤a):a∉X.fs:=fun hb=>by
 obtain ⟨_,o,ho,_⟩:=I.ok.funs.mem hb
 exact absurd (Nat.lt_of_lt_of_le (Heap.lt_size ho) (Nat.le_trans I.sz h)) (Nat.lt_irrefl _)
theorem Inv.cne (I:Inv X pins σ H s):∀ x c,X.env.cells.lookup x=some c→c≠X.env.locals:=fun x c e z=>by
 obtain ⟨v,o,ho,hd⟩:=I.cell x c e
 obtain ⟨m,⟨o',es,ep,ho',hd',_⟩,_⟩:=I.loc
 rw [z,ho'] at ho; cases ho; rw [hd'] at hd; cases hd
theorem Inv.funs (I:Inv X pins σ H s):s.heap.FunFrames X.base X.outer:=by
 have all:∀ (l:List Env),(∀ b∈frs l,b∈X.fs)→X.s₀.heap.FunFrames X.base l→s.heap.FunFrames X.base l:=by
  intro l
  induction l with
  | nil=>intro _ _; trivial
  | cons env r ih =>
   intro hs hl
   obtain ⟨hk,⟨L,o,hf,hn,ho,hd⟩,hr⟩:=hl
   have hL:L∈X.fs:=hs L (by unfold frs; rw [List.filterMap_cons,hf]; exact List.mem_cons_self)
   obtain ⟨sl,e⟩:=I.base.slot L o ho (I.ok.frf L hL) hL fun z=>I.ok.exfs L z hL
   exact ⟨hk,⟨L,_,hf,hn,e,hd⟩,ih (fun b hb=>hs b (by unfold frs; rw [List.filterMap_cons,hf]; exact List.mem_cons_of_mem _ hb)) hr⟩
 exact all X.outer (fun _ hb=>hb) I.ok.funs
theorem Inv.stack (I:Inv X pins σ H s):s.heap.FunFrames X.base X.stack:=by
 rcases I.ok.stk with e | ⟨e,hf⟩
 ·
  rw [e]; exact I.funs
 ·
  rw [e]
  obtain ⟨m,hn,_⟩:=I.loc
  refine .cons (by rw [I.ok.kind]; decide) hf hn ?_ I.funs
  exact Heap.get?_none_of_le (Nat.le_trans I.ok.bsz I.ok.above)
theorem Inv.stkSub (I:Inv X pins σ H s):∀ b∈frs X.stack,b∈X.env.locals::X.fs:=fun b hb=>by
 rcases I.ok.stk with e | ⟨e,hf⟩
 ·
  rw [e] at hb; exact List.mem_cons_of_mem _ hb
 ·
  rw [e] at hb
  unfold frs at hb
  rw [List.filterMap_cons,hf] at hb
  exact hb
theorem Inv.stkFree (I:Inv X pins σ H s):∀ b∈frs X.stack,H b=none:=fun b hb=>by
 rcases List.mem_cons.mp (I.stkSub b hb) with e | hb
 ·
  rw [e]; exact I.free
 ·
  obtain ⟨_,o,ho,_⟩:=I.ok.funs.mem hb
  exact I.base.free b o ho (I.ok.frf b hb) fun z=>I.ok.exfs b z hb
theorem Inv.step {g':Array GenState} {t':Nat} {d':Drawn} {ch:List Addr} (I:Inv X pins σ H s)
  (hch:∀ b∈ch,(b∈X.ex∨X.s₀.heap.objs.size≤b)∧b≠X.env.locals∧(∀ x c,X.env.cells.lookup x=some c→c≠b)∧∀ p∈X.pn++pins,p.1≠b)
  (keep:∀ b o,b≠X.env.locals→b∉X.fs→b∉ch→s.heap.get? b=some o→H b=none→h'.get? b=some o)
  (slot:∀ b o,b≠X.env.locals→b∈X.fs→b∉ch→s.heap.get? b=some o→H b=none→∃ sl,h'.get? b=some { o with slots:=sl }) (free:∀ b o,b∉ch→s.heap.get? b=some o→H b=none→H' b=none)
  (there:∀ b o,b∉ch→s.heap.get? b=some o→∃ o',h'.get? b=some o')
  (tups:∀ b xs,H b=some (.tup xs)→H' b=some (.tup xs)) (frzs:∀ b o u,H b=some (.frz o u)→H' b=some (.frz o u)) (tbls:∀ b ps,H b=some (.tbl ps)→∃ more,H' b=some (.tbl (ps++more)))
  (ns:∀ m,s.heap.Ns X.env.locals m→h'.Ns X.env.locals m) (hok:HOk X.prog X.w H' h') (hg:AllBare g') :
  Inv X pins σ H' { s with heap:=h',gens:=g',drawn:=d',toks:=t' }:=by
 have neL:∀ b o,X.s₀.heap.get? b=some o→b≠X.env.locals:=fun b o e=>Nat.ne_of_lt (Nat.lt_of_lt_of_le (Heap.lt_size e) I.ok.above)
 have neC:∀ b o,X.s₀.heap.get? b=some o→b∉X.ex→b∉ch:=fun b o e hx hb=>by
  rcases (hch b hb).1 with z | z
  ·
   exact hx z
  ·
   exact absurd (Nat.lt_of_lt_of_le (Heap.lt_size e) z) (Nat.lt_irrefl _)
 have cellK:∀ x c,X.env.cells.lookup x=some c→∀ v,s.heap.IsCell c v→h'.IsCell c v:=fun x c e v ⟨o,ho,hd⟩=>by
  have nch:c∉ch:=fun z=>(hch c z).2.2.1 x c e rfl
  by_cases hc:c∈X.fs
  ·
   obtain ⟨sl,q⟩:=slot c o (I.cne x c e) hc nch ho (I.freeC x c e)
   exact ⟨_,q,hd⟩
  ·
   exact ⟨o,keep c o (I.cne x c e) hc nch ho (I.freeC x c e),hd⟩
 refine ⟨I.ok,I.os,hg,⟨fun b o e n hb hx=>?_,fun b o e n hb hx=>?_,fun b o e n hx=>?_,fun b o e hx=>?_,fun b xs e=>tups b xs (I.base.tups b xs e),fun b o xs e=>frzs b o xs (I.base.frzs b o xs e),fun b ps e=>?_⟩,?_,fun x c e=>?_,?_,fun x c e=>?_,fun p hp=>?_,hok,I.len⟩
 ·
  exact keep b o (neL b o e) hb (neC b o e hx) (I.base.keep b o e n hb hx) (I.base.free b o e n hx)
 ·
  obtain ⟨sl,e1⟩:=I.base.slot b o e n hb hx
  obtain ⟨sl',e2⟩:=slot b _ (neL b o e) hb (neC b o e hx) e1 (I.base.free b o e n hx)
  exact ⟨sl',e2⟩
 ·
  obtain ⟨o',e1⟩:=I.base.there b o e hx
  exact free b o' (neC b o e hx) e1 (I.base.free b o e n hx)
 ·
  obtain ⟨o',e1⟩:=I.base.there b o e hx
  exact there b o' (neC b o e hx) e1
 ·
  obtain ⟨m1,e1⟩:=I.base.tbls b ps e
  obtain ⟨m2,e2⟩:=tbls b _ e1
  exact ⟨m1++m2,by rw [e2,Array.append_assoc]⟩
 ·
  obtain ⟨m,hn,hl⟩:=I.loc
  refine ⟨m,ns m hn,fun i x v e1 e2 e3=>?_⟩
  obtain ⟨u,r,l⟩:=hl i x v e1 e2 e3
  refine ⟨u,r,?_⟩
  rcases l with l | ⟨k,c,e,z⟩
  ·
   exact .inl l
  ·
   exact .inr ⟨k,c,e,cellK x c e _ z⟩
 ·
  obtain ⟨v,z⟩:=I.cell x c e
  exact ⟨v,cellK x c e v z⟩
 ·
  obtain ⟨m,⟨o,_,_,ho,_⟩,_⟩:=I.loc
  exact free _ o (fun z=>(hch _ z).2.1 rfl) ho I.free
 ·
  obtain ⟨v,o,ho,hd⟩:=I.cell x c e
  exact free c o (fun z=>(hch c z).2.2.1 x c e rfl) ho (I.freeC x c e)
 ·
  obtain ⟨e,n,ne,nf,d⟩:=I.pin p hp
  have nch:p.1∉ch:=fun z=>(hch p.1 z).2.2.2 p hp rfl
  exact ⟨keep p.1 p.2 ne nf nch e n,free p.1 p.2 nch e n,ne,nf,d⟩
theorem Inv.un {t':Nat} (I:Inv X pins σ H s) (u:Un X.fs [] H H' s.heap h') (hok:HOk X.prog X.w H' h'):Inv X pins σ H' { s with heap:=h',toks:=t' }:=by
 obtain ⟨m,⟨o,es,ep,ho,r⟩,_⟩:=id I.loc
 obtain ⟨sl,hL⟩:=u.any ho I.free (by simp)
 exact I.step (g':=s.gens) (d':=s.drawn) (ch:=[]) (fun _ z=>nomatch z) (fun b o _ hb _ e n=>u.keep b o e n hb (by simp)) (fun b o _ hb _ e n=>u.slot b o e n hb (by simp)) (fun b o _ e n=>u.free b o e n (by simp)) (fun b o _ e=>u.there b o e (by simp)) u.tups u.frzs u.tbls (fun m' hm=>by
  obtain ⟨o',es',ep',ho',r'⟩:=hm
  rw [ho] at ho'; cases ho'
  exact ⟨_,es',ep',hL,r'⟩) hok I.bare
theorem Inv.call {g':Array GenState} {t':Nat} {d':Drawn} {ch:List Addr} (I:Inv X pins σ H s) (u:Un (frs X.stack) ch H H' s.heap h') (hok:HOk X.prog X.w H' h') (hg:AllBare g')
  (hch:∀ b∈ch,(b∈X.ex∨X.s₀.heap.objs.size≤b)∧b≠X.env.locals∧(∀ x c,X.env.cells.lookup x=some c→c≠b)∧∀ p∈X.pn++pins,p.1≠b) :
  Inv X pins σ H' { s with heap:=h',gens:=g',drawn:=d',toks:=t' }:=by
 obtain ⟨m,⟨o,es,ep,ho,r⟩,_⟩:=id I.loc
 obtain ⟨sl,hL⟩:=u.any ho I.free fun z=>(hch _ z).2.1 rfl
 exact I.step (ch:=ch) hch (fun b o hL hb hc e n=>u.keep b o e n (fun z=>(List.mem_cons.mp (I.stkSub b z)).elim hL hb) hc) (fun b o _ _ hc e n=>u.any e n hc) (fun b o hc e n=>u.free b o e n hc) (fun b o hc e=>u.there b o e hc) u.tups u.frzs u.tbls (fun m' hm=>by
  obtain ⟨o',es',ep',ho',r'⟩:=hm
  rw [ho] at ho'; cases ho'
  exact ⟨_,es',ep',hL,r'⟩) hok hg
theorem Inv.turned {t':Nat} {it:Addr} (I:Inv X pins σ H s) (k:∀ b o,b≠it→s.heap.get? b=some o→h'.get? b=some o) (hn:H it=none) (hL:it≠X.env.locals)
  (h1:it∈X.ex∨X.s₀.heap.objs.size≤it) (h2:∀ x c,X.env.cells.lookup x=some c→c≠it) (h3:∀ p∈X.pn++pins,p.1≠it):Inv X pins σ H { s with heap:=h',toks:=t' }:=by
 have nit:∀ b u,H b=some u→b≠it:=fun b u e z=>by rw [z,hn] at e; cases e
 refine I.step (g':=s.gens) (d':=s.drawn) (ch:=[it]) (fun b hb=>?_) (fun b o _ _ hc e _=>k b o (fun z=>hc (by simp [z])) e) (fun b o _ _ hc e _=>⟨o.slots,k b o (fun z=>hc (by simp [z])) e⟩) (fun _ _ _ _ n=>n)
  (fun b o hc e=>⟨o,k b o (fun z=>hc (by simp [z])) e⟩) (fun _ _ e=>e) (fun _ _ _ e=>e) (fun b ps e=>⟨#[],by rw [e]; simp⟩) (fun m hm=>?_) (fun b u e=>?_) I.bare
 ·
  have e:b=it:=by simpa using hb
  subst e
  exact ⟨h1,hL,h2,h3⟩
 ·
  obtain ⟨o,es,ep,ho,r⟩:=hm
  exact ⟨o,es,ep,k _ o (Ne.symm hL) ho,r⟩
 ·
  refine (I.hok b u e).stay (fun c v hc q=>k c v ?_ q) (fun _ q=>q) fun _ _ q=>q
  rcases hc with z | z
  ·
   rw [z]; exact nit b u e
  ·
   exact nit c _ z
theorem Inv.tok (I:Inv X pins σ H s) (t:Nat):Inv X pins σ H { s with toks:=t }:=I.un (h':=s.heap) (t':=t) Un.refl I.hok
theorem Inv.kept {t':Nat} (I:Inv X pins σ H s) (k:∀ b u,s.heap.get? b=some u→h'.get? b=some u):Inv X pins σ H { s with heap:=h',toks:=t' }:=I.un (Un.kept k) (I.hok.kept k)
theorem Inv.laid {a:Addr} {o:HO} {t':Nat} (I:Inv X pins σ H s) (k:∀ b u,s.heap.get? b=some u→h'.get? b=some u) (hp:s.heap.objs.size≤a) (new:ObjOk X.prog X.w (upd H a o) h' a o) :
  Inv X pins σ (upd H a o) { s with heap:=h',toks:=t' }:=I.un (Un.laid k hp (I.hok.fresh hp)) (I.hok.laid k hp new)
theorem Inv.write {x e:Addr} {o:HO} {t':Nat} (I:Inv X pins σ H s) (mu:Mut (H x)) (he:e=x∨H e=some (.own x)) (k:∀ b u,b≠e→s.heap.get? b=some u→h'.get? b=some u) (heo:∃ u,h'.get? e=some u)
  (new:ObjOk X.prog X.w (upd H x o) h' x o):Inv X pins σ (upd H x o) { s with heap:=h',toks:=t' }:=I.un (Un.write mu he k heo) (I.hok.write mu he k heo new)
theorem Inv.pins_of {pins':List (Addr×Obj)} (I:Inv X pins σ H s) (h:∀ p∈pins',s.heap.get? p.1=some p.2∧H p.1=none∧p.1≠X.env.locals∧p.1∉X.fs∧∀ v,p.2.data≠.cell v):Inv X pins' σ H s :=
 ⟨I.ok,I.os,I.bare,I.base,I.loc,I.cell,I.free,I.freeC,fun p hp=>(List.mem_append.mp hp).elim (fun z=>I.pin p (List.mem_append_left _ z)) (h p),I.hok,I.len⟩
theorem nodup_ix {N:List Str} (hN:N.Nodup) {i j:Nat} {x:Str} (a:N[i]?=some x) (b:N[j]?=some x):i=j:=by
 obtain ⟨h1,e1⟩:=List.getElem?_eq_some_iff.mp a
 obtain ⟨h2,e2⟩:=List.getElem?_eq_some_iff.mp b
 exact (List.getElem_inj hN).mp (e1.trans e2.symm)
theorem store_ok2 {M:Model} {A:Around} {E:Value→Shared→Prop} {i:Nat} {x:Str} {v:V} {u:Value} {Q:Unit→Shared→Prop} (I:Inv X pins σ H s) (hN:X.N.Nodup) (hi:X.N[i]?=some x) (hx:Loc X.env.scope x) (r:RelV v u)
  (h:∀ s',Inv X pins (σ.set i (some v)) H s'→(∃ a,Heap.SameBut a s.heap s'.heap∧(a=X.env.locals∨X.env.cells.lookup x=some a))→Q () s') (hf:X.fn x=true∨X.env.scope.names.lookup x=some .local:=by first | exact .inl rfl | exact .inr rfl | assumption):wpAny M A (storeName X.env x u) Q E s:=by
 obtain ⟨m,hn,hl⟩:=id I.loc
 have hcls:(X.env.scope.kind == .class || (X.env.scope.kind == .module && X.env.locals != X.env.globals))=false:=by rw [I.ok.kind]; rfl
 have hiσ:i < σ.length:=by rw [I.len]; exact (List.getElem?_eq_some_iff.mp hi).1
 have cne:=I.cne
 have tracked:∀ {a:Addr} {h':Heap},(∃ o,s.heap.get? a=some o∧H a=none)→Heap.SameBut a s.heap h'→HOk X.prog X.w H h':=fun {a h'} ha hs b ob e=>by
  obtain ⟨_,_,hfree⟩:=ha
  refine (I.hok b ob e).stay (fun c w' hc q=>(hs.2 c ?_).trans q) (fun _ q=>q) fun _ _ q=>q
  rintro rfl
  rcases hc with rfl | hc
  ·
   rw [hfree] at e; cases e
  ·
   rw [hfree] at hc; cases hc
 rcases hx with hk | hk
 ·
  refine wpAny_storeName_local hk hn (fun h' hn' hs=>?_) hcls
  obtain ⟨oL,_,_,hoL,_⟩:=id hn
  refine h _ ⟨I.ok,I.os,I.bare,⟨fun b o e n hb hx=>?_,fun b o e n hb hx=>?_,I.base.free,fun b o e hx=>?_,I.base.tups,I.base.frzs,I.base.tbls⟩,⟨_,hn',fun j y v' e1 e2 e3=>?_⟩,fun y c e=>?_,I.free,I.freeC,fun p hp=>?_,tracked ⟨oL,hoL,I.free⟩ hs,by simpa using I.len⟩ ⟨_,hs,.inl rfl⟩
  ·
   exact (hs.2 b (Nat.ne_of_lt (Nat.lt_of_lt_of_le (Heap.lt_size e) I.ok.above))).trans (I.base.keep b o e n hb hx)
  ·
   obtain ⟨sl,e1⟩:=I.base.slot b o e n hb hx
   exact ⟨sl,(hs.2 b (Nat.ne_of_lt (Nat.lt_of_lt_of_le (Heap.lt_size e) I.ok.above))).trans e1⟩
  ·
   obtain ⟨o',e1⟩:=I.base.there b o e hx
   exact ⟨o',(hs.2 b (Nat.ne_of_lt (Nat.lt_of_lt_of_le (Heap.lt_size e) I.ok.above))).trans e1⟩
  ·
   by_cases hj:j=i
   ·
    subst hj
    rw [hi] at e1; cases e1
    rw [List.getElem?_set_self hiσ] at e2
    cases e2
    exact ⟨u,r,.inl ⟨hk,by simp⟩⟩
   ·
    rw [List.getElem?_set_ne (Ne.symm hj)] at e2
    obtain ⟨u',r',q⟩:=hl j y v' e1 e2 e3
    refine ⟨u',r',?_⟩
    rcases q with ⟨k,e⟩ | ⟨k,c,e,z⟩
    ·
     refine .inl ⟨k,?_⟩
     have:y≠x:=fun e=>hj (nodup_ix hN e1 (e ▸ hi))
     simp [this,e]
    ·
     exact .inr ⟨k,c,e,z.sameBut hs (cne y c e)⟩
  ·
   obtain ⟨w',z⟩:=I.cell y c e
   exact ⟨w',z.sameBut hs (cne y c e)⟩
  ·
   obtain ⟨e,n,ne,nf,d⟩:=I.pin p hp
   exact ⟨(hs.2 p.1 ne).trans e,n,ne,nf,d⟩
 ·
  have hfn:X.fn x=true:=by
   rcases hf with z | z
   ·
    exact z
   ·
    rw [z] at hk; cases hk
  obtain ⟨c,hc⟩:=I.ok.has x (.inl hk)
  obtain ⟨w',z⟩:=I.cell x c hc
  refine wpAny_storeName_cell I.ok.kind hk hc z (fun h' hc' hs=>?_)
  obtain ⟨oc,hoc,hocd⟩:=id z
  refine h { s with heap:=h' } ⟨I.ok,I.os,I.bare,⟨fun b o e n hb hx=>?_,fun b o e n hb hx=>?_,I.base.free,fun b o e hx=>?_,I.base.tups,I.base.frzs,I.base.tbls⟩,⟨m,hn.sameBut hs (Ne.symm (cne x c hc)),fun j y v' e1 e2 e3=>?_⟩,fun y c' e=>?_,I.free,I.freeC,fun p hp=>?_,tracked ⟨oc,hoc,I.freeC x c hc⟩ hs,by simpa using I.len⟩ ⟨c,hs,.inr hc⟩
  ·
   exact (hs.2 b (Nat.ne_of_lt (Nat.lt_of_lt_of_le (Heap.lt_size e) (I.ok.cab x c hfn hc)))).trans (I.base.keep b o e n hb hx)
  ·
   obtain ⟨sl,e1⟩:=I.base.slot b o e n hb hx
   exact ⟨sl,(hs.2 b (Nat.ne_of_lt (Nat.lt_of_lt_of_le (Heap.lt_size e) (I.ok.cab x c hfn hc)))).trans e1⟩
  ·
   obtain ⟨o',e1⟩:=I.base.there b o e hx
   exact ⟨o',(hs.2 b (Nat.ne_of_lt (Nat.lt_of_lt_of_le (Heap.lt_size e) (I.ok.cab x c hfn hc)))).trans e1⟩
  ·
   by_cases hj:j=i
   ·
    subst hj
    rw [hi] at e1; cases e1
    rw [List.getElem?_set_self hiσ] at e2
    cases e2
    exact ⟨u,r,.inr ⟨.inl hk,c,hc,hc'⟩⟩
   ·
    rw [List.getElem?_set_ne (Ne.symm hj)] at e2
    obtain ⟨u',r',q⟩:=hl j y v' e1 e2 e3
    refine ⟨u',r',?_⟩
    rcases q with q | ⟨k,c',e,z'⟩
    ·
     exact .inl q
    ·
     refine .inr ⟨k,c',e,z'.sameBut hs ?_⟩
     rintro rfl
     exact hj (nodup_ix hN e1 (I.ok.inj _ _ _ e hc ▸ hi))
  ·
   by_cases hcc:c'=c
   ·
    subst hcc; exact ⟨_,hc'⟩
   ·
    obtain ⟨w2,z2⟩:=I.cell y c' e
    exact ⟨w2,z2.sameBut hs hcc⟩
  ·
   obtain ⟨e,n,ne,nf,d⟩:=I.pin p hp
   refine ⟨(hs.2 p.1 ?_).trans e,n,ne,nf,d⟩
   intro q
   rw [q,hoc] at e
   have q':oc=p.2:=Option.some.inj e
   exact d w' (by rw [← q']; exact hocd)
theorem store_ok {M:Model} {A:Around} {E:Value→Shared→Prop} {i:Nat} {x:Str} {v:V} {u:Value} {Q:Unit→Shared→Prop} (I:Inv X pins σ H s) (hN:X.N.Nodup) (hi:X.N[i]?=some x) (hx:Loc X.env.scope x) (r:RelV v u)
  (h:∀ s',Inv X pins (σ.set i (some v)) H s'→Q () s') (hf:X.fn x=true∨X.env.scope.names.lookup x=some .local:=by first | exact .inl rfl | exact .inr rfl | assumption):wpAny M A (storeName X.env x u) Q E s :=
 store_ok2 I hN hi hx r (fun s' I' _=>h s' I') hf
theorem Inv.call' {s':Shared} {ch:List Addr} (I:Inv X pins σ H s) (ho:s'.os=s.os) (u:Un (frs X.stack) ch H H' s.heap s'.heap) (hok:HOk X.prog X.w H' s'.heap) (hg:AllBare s'.gens)
  (hch:∀ b∈ch,(b∈X.ex∨X.s₀.heap.objs.size≤b)∧b≠X.env.locals∧(∀ x c,X.env.cells.lookup x=some c→c≠b)∧∀ p∈X.pn++pins,p.1≠b):Inv X pins σ H' s':=by
 obtain ⟨h',g',d',t',o'⟩:=s'
 have e:o'=s.os:=ho
 subst e
 exact I.call (g':=g') (t':=t') (d':=d') u hok hg hch
end
abbrev XK:=Value→Option Addr→Hp→Prop
abbrev St:=List (Option V)
abbrev VK:=V→Hp→Prop
abbrev TE:=St→Hp→VK→Prop
abbrev TT:=St→Hp→(Bool→Hp→Prop)→Prop
abbrev TA:=St→Hp→(List V→Hp→Prop)→Prop
structure Ends where
 nx:St→Hp→Prop
 rt:VK
 bk:St→Hp→Prop:=fun _ _=>False
 ct:St→Hp→Prop:=fun _ _=>False
abbrev TS:=Ends→St→Hp→Prop
def EP (X:Cx) (pins:List (Addr×Obj)) (σ:St) (Q:VK) (u:Value) (s':Shared):Prop:=∃ v H',Inv X pins σ H' s'∧RelV v u∧Q v H'
def TP (X:Cx) (pins:List (Addr×Obj)) (σ:St) (Q:Bool→Hp→Prop) (b:Bool) (s':Shared):Prop:=∃ H',Inv X pins σ H' s'∧Q b H'
def AP (X:Cx) (pins:List (Addr×Obj)) (σ:St) (Q:List V→Hp→Prop) (us:List Value) (s':Shared):Prop:=∃ vs H',Inv X pins σ H' s'∧Vals vs us∧Q vs H'
def SP (X:Cx) (pins:List (Addr×Obj)) (D:Ends) (f:Flow) (s':Shared):Prop :=
 match f with
 | .next=>∃ σ' H',Inv X pins σ' H' s'∧D.nx σ' H'
 | .brk=>∃ σ' H',Inv X pins σ' H' s'∧D.bk σ' H'
 | .cont=>∃ σ' H',Inv X pins σ' H' s'∧D.ct σ' H'
 | .ret u=>∃ v σ' H',Inv X pins σ' H' s'∧RelV v u∧D.rt v H'
def PE (X:Cx) (e:Expr) (t:TE):Prop :=
 ∀ (pins:List (Addr×Obj)) (s:Shared) (σ:St) (H:Hp) (Q:VK),Inv X pins σ H s→t σ H Q→wpAny (model X.prog X.w) X.A (eval e X.env) (EP X pins σ Q) X.xe s
def PT (X:Cx) (e:Expr) (t:TT):Prop :=
 ∀ (pins:List (Addr×Obj)) (s:Shared) (σ:St) (H:Hp) (Q:Bool→Hp→Prop),Inv X pins σ H s→t σ H Q→wpAny (model X.prog X.w) X.A (isTrue e X.env (eval e X.env)) (TP X pins σ Q) X.xe s
def PA (X:Cx) (es:List Expr) (t:TA):Prop :=
 ∀ (pos:Pos) (pins:List (Addr×Obj)) (s:Shared) (σ:St) (H:Hp) (Q:List V→Hp→Prop),Inv X pins σ H s→t σ H Q→wpAny (model X.prog X.w) X.A (spliced (backTo pos (starEach es X.env))) (AP X pins σ Q) X.xe s
def PS (X:Cx) (st:Stmt) (t:TS):Prop :=
 ∀ (pins:List (Addr×Obj)) (s:Shared) (σ:St) (H:Hp) (D:Ends),Inv X pins σ H s→t D σ H→wpAny (model X.prog X.w) X.A (exec st X.env) (SP X pins D) X.xe s
def PSs (X:Cx) (st:List Stmt) (t:TS):Prop :=
 ∀ (pins:List (Addr×Obj)) (s:Shared) (σ:St) (H:Hp) (D:Ends),Inv X pins σ H s→t D σ H→wpAny (model X.prog X.w) X.A (execs st X.env) (SP X pins D) X.xe s
theorem thn {α:Type} {t:Sem α} {Q Q':α→Shared→Prop} {M:Model} {A:Around} {E:Value→Shared→Prop} {s:Shared} (h:wpAny M A t Q E s) (hQ:∀ a s,Q a s→Q' a s):wpAny M A t Q' E s:=wpAny_mono h hQ fun _ _ x=>x
end L2
namespace L2
open PySem PySem.Spec PyProof.Rows
section
variable {X:Cx}
theorem bin {a b:Expr} {ta tb:TE} (ha:PE X a ta) (hb:PE X b tb) {pins:List (Addr×Obj)} {s:Shared} {σ:St} {H:Hp} {R:V→V→Hp→Prop} (I:Inv X pins σ H s) (h:ta σ H fun x H1=>tb σ H1 fun y H2=>R x y H2)
  {α:Type} {Q:α→Shared→Prop} {f:Value→Value→Sem α}
  (hf:∀ v u s2 x y H2,Inv X pins σ H2 s2→RelV x v→RelV y u→R x y H2→wpAny (model X.prog X.w) X.A (f v u) Q X.xe s2) :
  wpAny (model X.prog X.w) X.A (eval a X.env) (fun v s₁=>wpAny (model X.prog X.w) X.A (eval b X.env) (fun u s₂=>wpAny (model X.prog X.w) X.A (f v u) Q X.xe s₂) X.xe s₁) X.xe s:=by
 refine thn (ha pins s σ H _ I h) fun v s1 ⟨x,H1,I1,r1,q1⟩=>?_
 refine thn (hb pins s1 σ H1 _ I1 q1) fun u s2 ⟨y,H2,I2,r2,q2⟩=>?_
 exact hf v u s2 x y H2 I2 r1 r2 q2
def tVar (i:Nat):TE:=fun σ H Q=>∃ v,σ[i]?=some (some v)∧Q v H
def tC (v:V):TE:=fun _ H Q=>Q v H
theorem pe_var {i:Nat} {x:Str} {pos:Pos} (hN:X.N[i]?=some x) (hv:Vis X.env.scope x) (hd:(x == ("__debug__" : Str))=false:=by decide) (hcd:(x == ("__classdict__" : Str))=false:=by decide):PE X (.Name x pos) (tVar i):=by
 intro pins s σ H Q I h
 obtain ⟨v,e,h⟩:=h
 obtain ⟨m,hn,hl⟩:=I.loc
 obtain ⟨u,r,l⟩:=hl i x v hN e hv
 have fin:EP X pins σ Q u s:=⟨v,H,I,r,h⟩
 rcases l with ⟨hk,hm⟩ | ⟨hk,c,hc,hcell⟩
 ·
  exact wpAny_Name (wpAny_loadName_local I.ok.kind hk hn hm fin) hd
 ·
  rcases hk with hk | hk
  ·
   exact wpAny_Name (wpAny_loadName_cell I.ok.kind hk hc hcell fin) hd
  ·
   exact wpAny_Name (wpAny_loadName_free I.ok.kind hk hc hcell fin hcd) hd
theorem pe_int {i j pos}:PE X (.Constant (.int i) j pos) (tC (.int i)):=fun _ _ _ H _ I h=>wpAny_Constant_int ⟨.int i,H,I.tok _,⟨_,rfl⟩,h⟩
theorem pe_bl {b j pos}:PE X (.Constant (.bool b) j pos) (tC (.bl b)):=fun _ _ _ H _ I h=>Constant_bool ⟨.bl b,H,I,rfl,h⟩
theorem pe_non {j pos}:PE X (.Constant .none j pos) (tC .non):=fun _ _ _ H _ I h=>Constant_none ⟨.non,H,I,rfl,h⟩
theorem pe_str {x j pos}:PE X (.Constant (.str x) j pos) (tC (.str x)):=fun _ _ _ H _ I h=>Calls.Constant_str ⟨.str x,H,I.tok _,⟨_,rfl⟩,h⟩
def Gl (X:Cx) (x:Str):Prop:=X.env.kindOf x=some .globalImplicit
theorem ld_glob {E:Value→Shared→Prop} {pins:List (Addr×Obj)} {s:Shared} {σ:St} {H:Hp} {x:Str} {u:Value} {pos:Pos} {Q:Value→Shared→Prop} (I:Inv X pins σ H s) (hg:Gl X x) (hm:X.mg x=some u) (h:Q u s)
  (hd:(x == ("__debug__" : Str))=false:=by decide):wpAny (model X.prog X.w) X.A (eval (.Name x pos) X.env) Q E s :=
 Calls.Name_function_global I.ok.kind hg (Calls.loadGlobal_global (by rw [I.ok.glob]; exact I.mod.glob.keeps I.bk) hm h) hd
theorem ld_blt {E:Value→Shared→Prop} {pins:List (Addr×Obj)} {s:Shared} {σ:St} {H:Hp} {x:Str} {u:Value} {pos:Pos} {Q:Value→Shared→Prop} (I:Inv X pins σ H s) (hg:Gl X x) (hm:X.mg x=none) (hv:bootBuiltins x=some u) (h:Q u s)
  (hn:x≠"__name__":=by decide) (hd:(x == ("__debug__" : Str))=false:=by decide):wpAny (model X.prog X.w) X.A (eval (.Name x pos) X.env) Q E s:=by
 obtain ⟨mb,h1,h2⟩:=I.mod.blt
 exact Calls.Name_function_global I.ok.kind hg (Calls.loadGlobal_builtin (by rw [I.ok.glob]; exact I.mod.glob.keeps I.bk) hm (by rw [I.ok.blt]; exact h1.keeps I.bk) ((h2 x hn).trans hv) h) hd
theorem pe_glob {x:Str} {v:V} {u:Value} {pos:Pos} (hg:Gl X x) (hm:X.mg x=some u) (r:RelV v u) (hd:(x == ("__debug__" : Str))=false:=by decide):PE X (.Name x pos) (tC v) :=
 fun _ _ _ H _ I h=>ld_glob I hg hm ⟨v,H,I,r,h⟩ hd
theorem pe_bltn {x:Str} {v:V} {u:Value} {pos:Pos} (hg:Gl X x) (hm:X.mg x=none) (hv:bootBuiltins x=some u) (r:RelV v u) (hn:x≠"__name__":=by decide) (hd:(x == ("__debug__" : Str))=false:=by decide):PE X (.Name x pos) (tC v) :=
 fun _ _ _ H _ I h=>ld_blt I hg hm hv ⟨v,H,I,r,h⟩ hn hd
variable {a b:Expr} {ta tb:TE} {pos:Pos}
def tB (t:TE):TT:=fun σ H Q=>t σ H fun x H1=>∃ c,x=.bl c∧Q c H1
variable {tA tB':TT} {rest:List Expr}
end
end L2
namespace L2
open PySem PySem.Spec PyProof.Rows
def SqL (K:PySem.W.Frag) (H:Hp) (a:Addr) (xs:List V):Prop :=
 Rd H a (.lst xs) ∨
  ∃ (o:Obj) (its:Array Value) (n:Nat),K.lookup a=some o∧o.cls=.type "list"∧o.dict=none∧o.data=.seq its n∧its.size≤sizeLine∧Vals xs its.toList
def SqT (K:PySem.W.Frag) (H:Hp) (a:Addr) (xs:List V):Prop :=
 Rd H a (.tup xs) ∨
  ∃ (o:Obj) (its:Array Value) (n:Nat),K.lookup a=some o∧o.cls=.type "tuple"∧o.data=.seq its n∧its.size≤sizeLine∧Vals xs its.toList
def absV:Value→Option V
 | .none=>some .non
 | .bool b=>some (.bl b)
 | .int i _=>some (.int i)
 | .str x _=>some (.str x)
 | .bytes b _=>some (.byt b)
 | .float b _=>some (.flt b)
 | .ref a=>some (.ref a)
 | .type n=>some (.ty n)
 | _=>none
theorem RelV.abs {x:V} {u:Value} (r:RelV x u):absV u=some x:=by
 cases x with
 | non=>cases r; rfl
 | bl _=>cases r; rfl
 | int _=>obtain ⟨t,rfl⟩:=r; rfl
 | str _=>obtain ⟨t,rfl⟩:=r; rfl
 | byt _=>obtain ⟨t,rfl⟩:=r; rfl
 | flt _=>obtain ⟨t,rfl⟩:=r; rfl
 | ref _=>cases r; rfl
 | ty _=>cases r; rfl
theorem RelV.inj {x y:V} {u:Value} (r:RelV x u) (q:RelV y u):x=y:=Option.some.inj (r.abs.symm.trans q.abs)
theorem Vals.inj:∀ {xs ys:List V} {us:List Value},Vals xs us→Vals ys us→xs=ys
 | _,_,_,.nil,.nil=>rfl
 | _,_,_,.cons r t,.cons r' t'=>by rw [r.inj r',Vals.inj t t']
section
variable {X:Cx} {pins:List (Addr×Obj)} {σ:St} {H:Hp} {s:Shared} {a:Addr} {xs ys:List V}
theorem SqL.of {K:PySem.W.Frag} (h:H a=some (.lst xs)):SqL K H a xs:=.inl (.inl h)
theorem SqT.of {K:PySem.W.Frag} (h:H a=some (.tup xs)):SqT K H a xs:=.inl (.inl h)
theorem Inv.list (I:Inv X pins σ H s) (h:SqL X.K H a xs):∃ its:List Value,Vals xs its∧PlainL s.heap a its.toArray∧xs.length≤sizeLine:=by
 rcases h with h | ⟨o,its,n,hk,hc,hd,hs,hz,r⟩
 ·
  obtain ⟨z,its,n,r,e⟩:=h.ok I.hok
  exact ⟨its,r,⟨_,n,e,rfl,rfl,rfl⟩,z⟩
 ·
  refine ⟨its.toList,r,⟨o,n,I.kIn a o hk,hc,hd,by simpa using hs⟩,?_⟩
  have e:=r.length
  simp only [Array.length_toList] at e
  omega
theorem Inv.tuple (I:Inv X pins σ H s) (h:SqT X.K H a xs):∃ its:List Value,Vals xs its∧IsTup s.heap a its.toArray∧xs.length≤sizeLine:=by
 rcases h with h | ⟨o,its,n,hk,hc,hs,hz,r⟩
 ·
  obtain ⟨z,its,r,p⟩:=h.ok I.hok
  exact ⟨its,r,p,z⟩
 ·
  refine ⟨its.toList,r,⟨o,I.kIn a o hk,hc,n,by simpa using hs⟩,?_⟩
  have e:=r.length
  simp only [Array.length_toList] at e
  omega
theorem Inv.list_inj (I:Inv X pins σ H s) (h:SqL X.K H a xs) (h':SqL X.K H a ys):xs=ys:=by
 obtain ⟨its,r,⟨o,n,e,_,_,d⟩,_⟩:=I.list h
 obtain ⟨its',r',⟨o',n',e',_,_,d'⟩,_⟩:=I.list h'
 rw [e] at e'; cases e'
 rw [d] at d'
 injection d' with d1 _
 have:its=its':=by simpa using congrArg Array.toList d1
 subst this
 exact r.inj r'
theorem Inv.tuple_inj (I:Inv X pins σ H s) (h:SqT X.K H a xs) (h':SqT X.K H a ys):xs=ys:=by
 obtain ⟨its,r,⟨o,e,_,n,d⟩,_⟩:=I.tuple h
 obtain ⟨its',r',⟨o',e',_,n',d'⟩,_⟩:=I.tuple h'
 rw [e] at e'; cases e'
 rw [d] at d'
 injection d' with d1 _
 have:its=its':=by simpa using congrArg Array.toList d1
 subst this
 exact r.inj r'
end
abbrev Cx.wish (X:Cx) (E:Value→Shared→Prop):Cx:={ X with xe:=E }
abbrev Cx.nox (X:Cx):Cx:=X.wish fun _ _=>False
theorem Cx.Ok.wish {X:Cx} (ok:X.Ok) (E:Value→Shared→Prop):(X.wish E).Ok :=
 ⟨ok.mod,ok.kind,ok.glob,ok.blt,ok.above,ok.inj,ok.has,ok.cab,ok.hd,ok.frames,ok.stk,ok.exf,ok.bs,ok.bsz,ok.noex,ok.exfs,ok.funs,ok.frf⟩
theorem Cx.Ok.unwish {X:Cx} {E:Value→Shared→Prop} (ok:(X.wish E).Ok):X.Ok :=
 ⟨ok.mod,ok.kind,ok.glob,ok.blt,ok.above,ok.inj,ok.has,ok.cab,ok.hd,ok.frames,ok.stk,ok.exf,ok.bs,ok.bsz,ok.noex,ok.exfs,ok.funs,ok.frf⟩
section
variable {X:Cx} {pins:List (Addr×Obj)} {σ:St} {H:Hp} {s:Shared} {E:Value→Shared→Prop}
theorem Inv.wish (I:Inv X pins σ H s) (E:Value→Shared→Prop):Inv (X.wish E) pins σ H s:=⟨I.ok.wish E,I.os,I.bare,I.base,I.loc,I.cell,I.free,I.freeC,I.pin,I.hok,I.len⟩
theorem Inv.unwish (I:Inv (X.wish E) pins σ H s):Inv X pins σ H s:=⟨I.ok.unwish,I.os,I.bare,I.base,I.loc,I.cell,I.free,I.freeC,I.pin,I.hok,I.len⟩
theorem SP.unwish {D:Ends} {f:Flow} {s':Shared} (h:SP (X.wish E) pins D f s'):SP X pins D f s':=by
 cases f with
 | next=>obtain ⟨σ',H',I,q⟩:=h; exact ⟨σ',H',I.unwish,q⟩
 | brk=>obtain ⟨σ',H',I,q⟩:=h; exact ⟨σ',H',I.unwish,q⟩
 | cont=>obtain ⟨σ',H',I,q⟩:=h; exact ⟨σ',H',I.unwish,q⟩
 | ret u=>obtain ⟨v,σ',H',I,r,q⟩:=h; exact ⟨v,σ',H',I.unwish,r,q⟩
theorem PSs.nox {st:List Stmt} {t:TS} (h:PSs X.nox st t):PSs X st t:=fun pins s σ H D I hw =>
 wpAny_mono (h pins s σ H D (I.wish _) hw) (fun _ _ q=>q.unwish) fun _ _ z=>False.elim z
end
section
variable {X:Cx} {st:Stmt} {rest:List Stmt} {t u:TS} {e:Expr} {te:TE} {pos:Pos}
theorem Inv.quiet {pins:List (Addr×Obj)} {σ:St} {H:Hp} {s:Shared} (I:Inv X pins σ H s):interactive X.env=false:=by simp [interactive,I.ok.kind]
end
abbrev TG:=V→St→Hp→(St→Hp→Prop)→Prop
abbrev TGs:=List V→St→Hp→(St→Hp→Prop)→Prop
def PG (X:Cx) (target:Expr) (t:TG):Prop :=
 ∀ (pins:List (Addr×Obj)) (s:Shared) (σ:St) (H:Hp) (v:V) (u:Value) (Q:St→Hp→Prop),Inv X pins σ H s→RelV v u→t v σ H Q →
  wpAny (model X.prog X.w) X.A (assign target X.env u) (fun _ s'=>∃ σ' H',Inv X pins σ' H' s'∧Q σ' H') X.xe s
def PGs (X:Cx) (ts:List Expr) (t:TGs):Prop :=
 ∀ (pins:List (Addr×Obj)) (s:Shared) (σ:St) (H:Hp) (vs:List V) (us:List Value) (Q:St→Hp→Prop),Inv X pins σ H s→Vals vs us→t vs σ H Q →
  wpAny (model X.prog X.w) X.A (assignInOrder ((assignEach ts X.env).map (·.2)) us) (fun _ s'=>∃ σ' H',Inv X pins σ' H' s'∧Q σ' H') X.xe s
abbrev TSet:=V→V→V→Hp→(Hp→Prop)→Prop
def PSet (X:Cx) (t:TSet):Prop :=
 ∀ (pins:List (Addr×Obj)) (s:Shared) (σ:St) (H:Hp) (o i v:V) (ov iv u:Value) (Q:Hp→Prop),Inv X pins σ H s→RelV o ov→RelV i iv→RelV v u→t o i v H Q →
  wpAny (model X.prog X.w) X.A (setItem ov iv u) (fun _ s'=>∃ H',Inv X pins σ H' s'∧Q H') X.xe s
section
variable {X:Cx} {pos:Pos}
def gName (i:Nat):TG:=fun v σ H Q=>Q (σ.set i (some v)) H
theorem pg_name {i:Nat} {x:Str} (hN:X.N.Nodup) (hi:X.N[i]?=some x) (hx:Loc X.env.scope x) (hf:X.fn x=true∨X.env.scope.names.lookup x=some .local:=by first | exact .inl rfl | exact .inr rfl | assumption):PG X (.Name x pos) (gName i):=by
 intro pins s σ H v u Q I r h
 exact wpAny_assign_Name (store_ok I hN hi hx r (fun s' I'=>⟨_,H,I',h⟩) hf)
def gNil:TGs:=fun vs σ H Q=>vs=[]∧Q σ H
def gCons (t:TG) (u:TGs):TGs:=fun vs σ H Q=>∃ v r,vs=v::r∧t v σ H fun σ' H'=>u r σ' H' Q
theorem pgs_nil:PGs X [] gNil:=by
 intro pins s σ H vs us Q I r h
 obtain ⟨e,h⟩:=h
 subst e
 cases r
 exact assignInOrder_nil ⟨σ,H,I,h⟩
theorem pgs_cons {e:Expr} {es:List Expr} {t:TG} {u:TGs} (h1:PG X e t) (h2:PGs X es u)
  (hs:(assignEach (e::es) X.env).map (·.2)=assign e X.env::(assignEach es X.env).map (·.2):=by rfl):PGs X (e::es) (gCons t u):=by
 intro pins s σ H vs us Q I r h
 obtain ⟨v,vr,e1,h⟩:=h
 subst e1
 cases r with
 | cons r rr =>
  rw [hs]
  refine assignInOrder_cons (thn (h1 pins s σ H _ _ _ I r h) fun _ s1 ⟨σ1,H1,I1,q1⟩=>?_)
  exact h2 pins s1 σ1 H1 _ _ Q I1 rr q1
def gTup (K:PySem.W.Frag) (n:Nat) (t:TGs):TG:=fun v σ H Q=>∃ a xs,v=.ref a∧SqT K H a xs∧xs.length=n∧t xs σ H Q
theorem pg_tup {es:List Expr} {k:Nat} {t:TGs} {n:Nat} (hc:X.calm=true) (h:PGs X es t)
  (hn:(assignEach es X.env).length=n:=by rfl) (hst:(assignEach es X.env).findIdx? (·.1)=none:=by rfl):PG X (.Tuple es k pos) (gTup X.K n t):=by
 intro pins s σ H v u Q I r hw
 obtain ⟨a,xs,e1,hq,hl,hw⟩:=hw
 subst e1
 cases r
 obtain ⟨its,rv,ht,hz⟩:=I.tuple hq
 refine assign_Tuple_tuple (I.ok.hd hc) ht (by simp [hn,← hl,rv.length]) hst fun h' hx=>?_
 have I1:Inv X pins σ H { s with heap:=h' }:=I.kept (t':=s.toks) fun b o e=>hx b o (Nat.ne_of_lt (Heap.lt_size e)) e
 exact h pins _ σ H xs _ Q I1 (by simpa using rv) hw
def gSub (to ti:TE) (t:TSet):TG:=fun v σ H Q=>to σ H fun o H1=>ti σ H1 fun i H2=>t o i v H2 fun H3=>Q σ H3
theorem pg_sub {o i:Expr} {to ti:TE} {t:TSet} (ho:PE X o to) (hi:PE X i ti) (hs:PSet X t)
  (ha:∀ v,assign (.Subscript o i pos) X.env v=(do
   let ov ← holding [v] (eval o X.env)
   let iv ← holding [v,ov] (eval i X.env)
   standAt pos
   holding [v,ov,iv] (setItem ov iv v)
   release [v,ov,iv] []):=by intro _; rfl):PG X (.Subscript o i pos) (gSub to ti t):=by
 intro pins s σ H v u Q I r h
 rw [ha]
 refine wpAny_bind (wpAny_holding (thn (ho pins s σ H _ I h) fun ov s1 ⟨x,H1,I1,r1,q1⟩=>?_))
 refine wpAny_bind (wpAny_holding (thn (hi pins s1 σ H1 _ I1 q1) fun iv s2 ⟨y,H2,I2,r2,q2⟩=>?_))
 refine wpAny_bind (wpAny_standAt (wpAny_bind (wpAny_holding (thn (hs pins s2 σ H2 x y v ov iv u _ I2 r1 r2 r q2) fun _ s3 ⟨H3,I3,q3⟩=>?_))))
 exact wpAny_release ⟨σ,H3,I3,q3⟩
def tAsg (te:TE) (g:TG):TS:=fun D σ H=>te σ H fun x H1=>g x σ H1 D.nx
theorem ps_asg {tg e:Expr} {te:TE} {g:TG} (he:PE X e te) (hg:PG X tg g) (hs:swapsWithSole [tg] e pos.line X.env=pure false:=by rfl) (hw:swappedStores [tg] e X.env=pure none:=by rfl)
  (h1:(assignEach [tg] X.env).map (·.2)=[assign tg X.env]:=by rfl):PS X (.Assign [tg] e pos) (tAsg te g):=by
 intro pins s σ H D I h
 refine wpAny_Assign_stores (thn (he pins s σ H _ I h) fun v s1 ⟨x,H1,I1,r1,q1⟩=>?_) hs hw
 rw [h1]
 exact thn (hg pins s1 σ H1 x v _ I1 r1 q1) fun _ s2 q=>q
def tPar (i j:Nat) (ta:TA):TS:=fun D σ H=>ta σ H fun vs H1=>∃ v w,vs=[v,w]∧D.nx ((σ.set i (some v)).set j (some w)) H1
theorem ps_par {i j:Nat} {x y:Str} {a b:Expr} {ta:TA} {px py pt:Pos} {kt k2 pt2} (hc:X.calm=true) (hN:X.N.Nodup) (hi:X.N[i]?=some x) (hj:X.N[j]?=some y) (hij:i≠j)
  (hx:X.env.scope.names.lookup x=some .local) (hy:X.env.scope.names.lookup y=some .local) (ha:PA X [a,b] ta)
  (hw:swappedStores [.Tuple [.Name x px,.Name y py] kt pt] (.Tuple [a,b] k2 pt2) X.env=pure (some [x,y]))
  (hs:swapsWithSole [.Tuple [.Name x px,.Name y py] kt pt] (.Tuple [a,b] k2 pt2) pos.line X.env=pure false:=by rfl) :
  PS X (.Assign [.Tuple [.Name x px,.Name y py] kt pt] (.Tuple [a,b] k2 pt2) pos) (tPar i j ta):=by
 intro pins s σ H D I h
 rw [exec_Assign_arm]
 refine wpAny_bind (wpAny_standAt ?_)
 rw [hs]
 refine wpAny_bind (wpAny_pure ?_)
 rw [if_neg (by decide)]
 refine wpAny_bind (Tuple_ (thn (ha _ pins s σ H _ I h) fun us s1 ⟨vs,H1,I1,r1,q1⟩=>?_))
 obtain ⟨v,w,e1,q1⟩:=q1
 subst e1
 obtain ⟨u1,u2,rfl,rv,rw'⟩:∃ u1 u2,us=[u1,u2]∧RelV v u1∧RelV w u2:=by
  cases r1 with
  | cons p q =>
   cases q with
   | cons p' q' =>
    cases q'
    exact ⟨_,_,rfl,p,p'⟩
 refine wpAny_newObj_type ?_ (by show 2≤sizeLine; decide)
 have I2:Inv X pins σ H1 { s1 with heap:=s1.heap.push { cls:=.type "tuple",data:=.seq [u1,u2].toArray } }:=I1.kept (t':=s1.toks) fun b o e=>Heap.get?_push_of_some _ e
 rw [hw]
 refine wpAny_bind (wpAny_pure ?_)
 show wpAny (model X.prog X.w) X.A (do rule "assign.swapped-stores"; let items ← unpackItems (.ref s1.heap.objs.size) 2 none; assignInOrder [fun v=>bindName X.env y v,fun v=>bindName X.env x v] items.reverse; pure Flow.next) _ _ _
 refine wpAny_bind (wpAny_rule (wpAny_bind (unpackItems_tuple (items:=#[u1,u2]) (I.ok.hd hc) (IsTup.new s1.heap _) fun h' hx'=>?_)))
 have I3:=I2.kept (h':=h') (t':=s1.toks) fun b o e=>hx' b o (Nat.ne_of_lt (Heap.lt_size e)) e
 show wpAny _ _ (assignInOrder [fun v=>bindName X.env y v,fun v=>bindName X.env x v] [u2,u1] >>= fun _=>pure Flow.next) _ _ _
 refine wpAny_bind (assignInOrder_cons (wpAny_bindName (store_ok I3 hN hj (.inl hy) rw' (fun s2 I4=>?_) (.inr hy))))
 refine assignInOrder_cons (wpAny_bindName (store_ok I4 hN hi (.inl hx) rv (fun s3 I5=>assignInOrder_nil (wpAny_pure ?_)) (.inr hx)))
 rw [List.set_comm _ _ (Ne.symm hij)] at I5
 exact ⟨_,H1,I5,q1⟩
end
section
variable {X:Cx} {pos:Pos}
def tWhile (c:TT) (tb:TS):TS:=fun D σ H=>∃ W:Nat→St→Hp→Prop,(∃ m,W m σ H)∧∀ m σ H,W m σ H →
 c σ H fun b H1=>if b=true then ∃ N:St→Hp→Prop,(∀ σ' H',N σ' H'→∃ m',m' < m∧W m' σ' H')∧tb { D with nx:=N,ct:=N,bk:=D.nx } σ H1 else D.nx σ H1
theorem ps_while {c:Expr} {body:List Stmt} {tc:TT} {tb:TS} (hp:PassesOwn (model X.prog X.w) X.A X.env X.xe) (hc:PT X c tc) (hb:PSs X body tb):PS X (.While c body [] pos) (tWhile tc tb):=by
 intro pins s σ H D I h
 obtain ⟨W,⟨m0,w0⟩,turn⟩:=h
 refine wpAny_While (codeAny_whileLoop (fun n s'=>∃ σ' H',Inv X pins σ' H' s'∧W n σ' H') ?_ m0 ⟨σ,H,I,w0⟩)
 rintro n s1 ⟨σ1,H1,I1,w1⟩
 refine wpAny_passesOwn hp (thn (hc pins s1 σ1 H1 _ I1 (turn n σ1 H1 w1)) fun b s2 ⟨H2,I2,q2⟩=>?_)
 cases b with
 | true =>
  obtain ⟨N,hN,q2⟩:=q2
  rw [if_pos rfl]
  refine wpAny_passesOwn hp (thn (hb pins s2 σ1 H2 _ I2 q2) fun f s3 q3=>?_)
  cases f with
  | next =>
   obtain ⟨σ3,H3,I3,n3⟩:=q3
   obtain ⟨m',hm,w3⟩:=hN σ3 H3 n3
   exact ⟨m',hm,σ3,H3,I3,w3⟩
  | cont =>
   obtain ⟨σ3,H3,I3,n3⟩:=q3
   obtain ⟨m',hm,w3⟩:=hN σ3 H3 n3
   exact ⟨m',hm,σ3,H3,I3,w3⟩
  | brk=>exact q3
  | ret v=>exact q3
 | false =>
  rw [if_neg Bool.false_ne_true]
  exact wpAny_execs_nil ⟨σ1,H2,I2,q2⟩
end
structure It where
 go:Nat→Hp→Prop
 yld:Nat→Hp→V→Hp→Prop
 stop:Nat→Hp→Prop
def FpOk (X:Cx) (pins:List (Addr×Obj)) (H:Hp) (b:Addr):Prop :=
 H b=none∧b≠X.env.locals∧b∉X.fs∧(b∈X.ex∨X.s₀.heap.objs.size≤b)∧(∀ x c,X.env.cells.lookup x=some c→c≠b)∧∀ p∈X.pn++pins,p.1≠b
theorem Inv.fpOk {X:Cx} {pins:List (Addr×Obj)} {σ:St} {H H':Hp} {s:Shared} {b:Addr} (I:Inv X pins σ H s) (hb:s.heap.objs.size≤b) (hn:H' b=none):FpOk X pins H' b:=by
 refine ⟨hn,Nat.ne_of_gt (Nat.lt_of_lt_of_le I.lt hb),I.nofs hb,.inr (Nat.le_trans I.sz hb),fun x c e z=>?_,fun p hp z=>?_⟩
 ·
  obtain ⟨v,q⟩:=I.cell x c e
  exact absurd (Nat.lt_of_lt_of_le q.lt (by rw [z]; exact hb)) (Nat.lt_irrefl _)
 ·
  exact absurd (Nat.lt_of_lt_of_le (Heap.lt_size (I.pin p hp).1) (by rw [z]; exact hb)) (Nat.lt_irrefl _)
structure Turn (P:Program) (w:World) (K:PySem.W.Frag) (tg:Expr) (J:It) (fp:List Addr) (it:Addr) (tn:Nat→Heap→Prop):Prop where
 mem:it∈fp
 obj:∀ i h,tn i h→∀ b∈fp,∃ o,h.get? b=some o∧∀ v,o.data≠.cell v
 keep:∀ i h h',tn i h→(∀ b∈fp,∀ o,h.get? b=some o→h'.get? b=some o)→tn i h'
 item:∀ (X:Cx),X.prog=P→X.w=w→X.K=K→X.calm=true→∀ (i:Nat) (pins:List (Addr×Obj)) (s:Shared) (σ:St) (H:Hp) (E:Value→Shared→Prop),Inv X pins σ H s→(∀ b∈fp,FpOk X pins H b)→tn i s.heap→J.go i H →
  wpAny (model P w) X.A (pyNext (.ref it)) (fun r s1=>∃ u,r=some u ∧
   wpAny (model P w) X.A (letOwnedTupleGo tg (.ref it) u) (fun _ s2=>∃ x H',Inv X pins σ H' s2∧RelV x u∧J.yld i H x H'∧tn (i+1) s2.heap∧∀ b∈fp,H' b=none) E s1) E s
 done:∀ (X:Cx),X.prog=P→X.w=w→X.K=K→X.calm=true→∀ (i:Nat) (pins:List (Addr×Obj)) (s:Shared) (σ:St) (H:Hp) (E:Value→Shared→Prop),Inv X pins σ H s→(∀ b∈fp,FpOk X pins H b)→tn i s.heap→J.stop i H →
  wpAny (model P w) X.A (pyNext (.ref it)) (fun r s1=>r=none∧Inv X pins σ H s1) E s
 self:∀ (A:Around) (i:Nat) (s:Shared) (Q:Value→Shared→Prop) (E:Value→Shared→Prop),tn i s.heap→Q (.ref it) s→wpAny (model P w) A (pyIter (.ref it)) Q E s
abbrev TI:=St→Hp→(It→Hp→Prop)→Prop
def PIE (X:Cx) (pins:List (Addr×Obj)) (σ:St) (tg:Expr) (R:It→Hp→Prop) (itv:Value) (s2:Shared):Prop :=
 ∃ (it:Addr) (fp:List Addr) (tn:Nat→Heap→Prop) (J:It) (H':Hp),itv=.ref it∧Inv X pins σ H' s2∧Turn X.prog X.w X.K tg J fp it tn∧tn 0 s2.heap∧(∀ b∈fp,FpOk X pins H' b)∧R J H'
def PI (X:Cx) (tg iter:Expr) (wi:TI):Prop :=
 ∀ (pins:List (Addr×Obj)) (s:Shared) (σ:St) (H:Hp) (R:It→Hp→Prop),Inv X pins σ H s→wi σ H R →
  wpAny (model X.prog X.w) X.A (eval iter X.env) (fun v s1=>wpAny (model X.prog X.w) X.A (pyIter v) (PIE X pins σ tg R) X.xe s1) X.xe s
theorem go_of {M : Model} {A : Around} {E : Value → Shared → Prop} {s : Shared} {tg : Expr} {it : Addr} {u : Value} {o : Obj} {n : String} {vs : Array Value} {Q : Unit → Shared → Prop} (ho : s.heap.get? it = some o) (hc : o.cls = .type n) (hd : o.data = .fields vs)
    (hn : ["enumerate", "zip", "dict_itemiterator", "dict_reverseitemiterator", "odict_iterator", "itertools.zip_longest", "itertools.pairwise"].contains n = false) (hQ : Q () s) : wpAny M A (letOwnedTupleGo tg (.ref it) u) Q E s := by
  unfold letOwnedTupleGo
  cases tg <;> first
    | exact wpAny_pure hQ
    | (cases u <;> first
        | exact wpAny_pure hQ
        | (refine wpAny_bind (wpAny_load ho ?_)
           rw [hc, hd]
           show wpAny M A (if (["enumerate", "zip", "dict_itemiterator", "dict_reverseitemiterator", "odict_iterator", "itertools.zip_longest", "itertools.pairwise"].contains n && vs[0]? == some (rawInt _)) = true then _ else _) Q E s
           rw [if_neg (by intro h; rw [hn, Bool.false_and] at h; cases h)]
           exact wpAny_pure hQ))
def Itl (K:PySem.W.Frag) (a:Addr):It :=
 ⟨fun i H=>∃ xs x,SqL K H a xs∧xs[i]?=some x,fun i H x H'=>H'=H∧∀ xs,SqL K H a xs→xs[i]?=some x,fun i H=>∃ xs,SqL K H a xs∧xs.length≤i⟩
def Itt (K:PySem.W.Frag) (a:Addr):It :=
 ⟨fun i H=>∃ xs x,SqT K H a xs∧xs[i]?=some x,fun i H x H'=>H'=H∧∀ xs,SqT K H a xs→xs[i]?=some x,fun i H=>∃ xs,SqT K H a xs∧xs.length≤i⟩
def Itr (lo:Int) (n:Nat):It:=⟨fun i _=>i < n,fun i H x H'=>H'=H∧x=.int (lo+i),fun i _=>n≤i⟩
theorem turn_list {P:Program} {w:World} {K:PySem.W.Frag} {tg:Expr} (a it:Addr):Turn P w K tg (Itl K a) [it] it (fun i h=>h.IsListIter it a i) where
 mem:=by simp
 obj:=fun i h st b hb=>by
  have e:b=it:=by simpa using hb
  subst e
  obtain ⟨o,e,c,d⟩:=st
  exact ⟨o,e,fun v z=>by rw [d] at z; cases z⟩
 keep:=fun i h h' st k=>st.at fun o e=>k it (by simp) o e
 item:=by
  intro X hP hw hK hc i pins s σ H E I hf st hg
  subst hP hw hK
  obtain ⟨xs,x,hq,hx⟩:=hg
  obtain ⟨its,rv,p,hz⟩:=I.list hq
  obtain ⟨u,hu,ru⟩:=rv.get hx
  obtain ⟨f0,f1,f2,f3,f4,f5⟩:=hf it (by simp)
  refine wpAny_pyNext_list_item st p.isList (x:=u) (by simpa using hu) fun h' st' sb=>?_
  have I1:Inv X pins σ H { s with heap:=h' }:=I.turned (t':=s.toks) (fun b o hb e=>(sb.2 b hb).trans e) f0 f1 f3 f4 f5
  obtain ⟨o,e,c,d⟩:=id st'
  exact ⟨u,rfl,go_of (s:={ s with heap:=h' }) e c d (by decide) ⟨x,H,I1,ru,⟨rfl,fun ys hy=>by rw [I.list_inj hy hq]; exact hx⟩,st',fun b hb=>(hf b hb).1⟩⟩
 done:=by
  intro X hP hw hK hc i pins s σ H E I hf st hg
  subst hP hw hK
  obtain ⟨xs,hq,hx⟩:=hg
  obtain ⟨its,rv,p,hz⟩:=I.list hq
  obtain ⟨f0,f1,f2,f3,f4,f5⟩:=hf it (by simp)
  have hl:=rv.length
  exact wpAny_pyNext_list_end (I.ok.hd hc) st p.isList (by simp; omega) fun h' eb=>⟨rfl,I.turned (t':=s.toks) (fun b o hb e=>eb b o hb e) f0 f1 f3 f4 f5⟩
 self:=fun _ _ _ _ _ st h=>wpAny_pyIter_listiter st h
theorem turn_tuple {P:Program} {w:World} {K:PySem.W.Frag} {tg:Expr} (a it:Addr):Turn P w K tg (Itt K a) [it] it (fun i h=>h.IsTupleIter it a i) where
 mem:=by simp
 obj:=fun i h st b hb=>by
  have e:b=it:=by simpa using hb
  subst e
  obtain ⟨o,e,c,d⟩:=st
  exact ⟨o,e,fun v z=>by rw [d] at z; cases z⟩
 keep:=fun i h h' st k=>st.at fun o e=>k it (by simp) o e
 item:=by
  intro X hP hw hK hc i pins s σ H E I hf st hg
  subst hP hw hK
  obtain ⟨xs,x,hq,hx⟩:=hg
  obtain ⟨its,rv,p,hz⟩:=I.tuple hq
  obtain ⟨u,hu,ru⟩:=rv.get hx
  obtain ⟨f0,f1,f2,f3,f4,f5⟩:=hf it (by simp)
  refine wpAny_pyNext_tuple_item st (show s.heap.IsTuple a its.toArray from p) (x:=u) (by simpa using hu) fun h' st' sb=>?_
  have I1:Inv X pins σ H { s with heap:=h' }:=I.turned (t':=s.toks) (fun b o hb e=>(sb.2 b hb).trans e) f0 f1 f3 f4 f5
  obtain ⟨o,e,c,d⟩:=id st'
  exact ⟨u,rfl,go_of (s:={ s with heap:=h' }) e c d (by decide) ⟨x,H,I1,ru,⟨rfl,fun ys hy=>by rw [I.tuple_inj hy hq]; exact hx⟩,st',fun b hb=>(hf b hb).1⟩⟩
 done:=by
  intro X hP hw hK hc i pins s σ H E I hf st hg
  subst hP hw hK
  obtain ⟨xs,hq,hx⟩:=hg
  obtain ⟨its,rv,p,hz⟩:=I.tuple hq
  obtain ⟨f0,f1,f2,f3,f4,f5⟩:=hf it (by simp)
  have hl:=rv.length
  exact wpAny_pyNext_tuple_end (I.ok.hd hc) st (show s.heap.IsTuple a its.toArray from p) (by simp; omega) fun h' eb=>⟨rfl,I.turned (t':=s.toks) (fun b o hb e=>eb b o hb e) f0 f1 f3 f4 f5⟩
 self:=fun _ _ _ _ _ st h=>wpAny_pyIter_tupleiter st h
theorem turn_range {P:Program} {w:World} {K:PySem.W.Frag} {tg:Expr} (it:Addr) (lo:Int) (n:Nat):Turn P w K tg (Itr lo n) [it] it (fun i h=>IsRangeIter h it (lo+(i:Nat)*1) ((n:Int) - (i:Nat)) 1) where
 mem:=by simp
 obj:=fun i h st b hb=>by
  have e:b=it:=by simpa using hb
  subst e
  exact ⟨_,st,fun v z=>by
   have z':Data.fields _=Data.cell v:=z
   cases z'⟩
 keep:=fun i h h' st k=>k it (by simp) _ st
 item:=by
  intro X hP hw hK hc i pins s σ H E I hf st hg
  subst hP hw hK
  obtain ⟨f0,f1,f2,f3,f4,f5⟩:=hf it (by simp)
  have W:=Walks.range (prog:=X.prog) (w:=X.w) (I.ok.hd hc) it lo 1 n
  refine W.item i s _ _ hg st fun v h' tk hv st' kk=>?_
  obtain ⟨t,rfl⟩:=hv
  have I1:Inv X pins σ H { s with heap:=h',toks:=tk }:=I.turned (fun b o hb e=>kk b o (by simpa using hb) e) f0 f1 f3 f4 f5
  refine ⟨_,rfl,go_of (s:={ s with heap:=h',toks:=tk }) (n:="range_iterator") st' rfl rfl (by decide) ⟨.int (lo+i),H,I1,⟨t,?_⟩,⟨rfl,rfl⟩,st',fun b hb=>(hf b hb).1⟩⟩
  rw [Int.mul_one]
 done:=by
  intro X hP hw hK hc i pins s σ H E I hf st hg
  subst hP hw hK
  obtain ⟨f0,f1,f2,f3,f4,f5⟩:=hf it (by simp)
  exact wpAny_pyNext_range_end (I.ok.hd hc) st (by have:n≤i:=hg; omega) fun h' eb=>⟨rfl,I.turned (t':=s.toks) (fun b o hb e=>eb b o hb e) f0 f1 f3 f4 f5⟩
 self:=fun _ _ _ _ _ st h=>wpAny_pyIter_rangeiter st h
end L2
namespace L2
open PySem PySem.Spec PyProof.Rows
section
variable {X:Cx} {tg:Expr}
theorem range_it {pins:List (Addr×Obj)} {σ:St} {H:Hp} {s:Shared} {R:It→Hp→Prop} {E:Value→Shared→Prop} {lo hi:Int} {t u v:Tok} {tk:Nat} (I:Inv X pins σ H s) (h1 : -(2 ^ 62)≤lo) (h2:lo < 2 ^ 62) (h3 : -(2 ^ 62)≤hi) (h4:hi < 2 ^ 62)
  (q:R (Itr lo (hi - lo).toNat) H):wpAny (model X.prog X.w) X.A (pyIter (.ref s.heap.objs.size)) (PIE X pins σ tg R) E { s with heap:=s.heap.push { cls:=.type "range",data:=.fields #[.int lo t,.int hi u,.int 1 v] },toks:=tk }:=by
 refine wpAny_pyIter_range (IsRange.new ..) (small_one h1 h2 h3 h4) ?_
 have I1:Inv X pins σ H { s with heap:=s.heap.push { cls:=.type "range",data:=.fields #[.int lo t,.int hi u,.int 1 v] },toks:=tk }:=I.kept fun b o e=>Heap.get?_push_of_some _ e
 refine ⟨(s.heap.push { cls:=.type "range",data:=.fields #[.int lo t,.int hi u,.int 1 v] }).objs.size,[(s.heap.push { cls:=.type "range",data:=.fields #[.int lo t,.int hi u,.int 1 v] }).objs.size],_,_,H,rfl,
  I1.kept (t':=tk) fun b o e=>Heap.get?_push_of_some _ e,turn_range _ lo (hi - lo).toNat,?_,fun b hb=>?_,q⟩
 ·
  have e1:lo+((0:Nat):Int)*1=lo:=by simp
  have e2:(((hi - lo).toNat:Nat):Int) - ((0:Nat):Int)=Builtin.Range.rangeSize lo hi 1:=by rw [rangeSize_one]; split <;> omega
  show IsRangeIter _ _ (lo+((0:Nat):Int)*1) ((((hi - lo).toNat:Nat):Int) - ((0:Nat):Int)) 1
  rw [e1,e2]
  exact Heap.get?_push_size _ rfl
 ·
  have e:b=(s.heap.push { cls:=.type "range",data:=.fields #[.int lo t,.int hi u,.int 1 v] }).objs.size:=by simpa using hb
  subst e
  exact I1.fpOk (Nat.le_refl _) (I1.hok.fresh (Nat.le_refl _))
def iRng1 (ta:TA):TI:=fun σ H R=>ta σ H fun vs H1=>∃ j:Int,vs=[.int j]∧-(2 ^ 62)≤j∧j < 2 ^ 62∧R (Itr 0 j.toNat) H1
def iRng2 (ta:TA):TI:=fun σ H R=>ta σ H fun vs H1=>∃ i j:Int,vs=[.int i,.int j]∧(-(2 ^ 62)≤i∧i < 2 ^ 62∧-(2 ^ 62)≤j∧j < 2 ^ 62)∧R (Itr i (j - i).toNat) H1
theorem pi_range1 {a:Expr} {ta:TA} {p pos:Pos} (hg:Gl X "range") (hm:X.mg "range"=none) (ha:PA X [a] ta) (hs:starEach [a] X.env=[(false,eval a X.env)]:=by rfl):PI X tg (.Call (.Name "range" p) [a] [] pos) (iRng1 ta):=by
 intro pins s σ H R I h
 refine Call_ (ld_blt I hg hm boot_range (PyProof.Rows.callWith_type1 (thn (ha pos pins s σ H _ I h) fun us s1 ⟨vs,H1,I1,r1,q1⟩=>?_) hs rfl))
 obtain ⟨j,e,q1,q2,q⟩:=q1
 subst e
 cases r1 with
 | cons r rr =>
  cases rr
  obtain ⟨t,rfl⟩:=r
  exact call_range_1 (range_it I1 (by omega) (by omega) q1 q2 (by simpa using q))
theorem pi_range2 {a b:Expr} {ta:TA} {p pos:Pos} (hg:Gl X "range") (hm:X.mg "range"=none) (ha:PA X [a,b] ta) (hs:starEach [a,b] X.env=[(false,eval a X.env),(false,eval b X.env)]:=by rfl) (hs2:starEach [b] X.env=[(false,eval b X.env)]:=by rfl) :
  PI X tg (.Call (.Name "range" p) [a,b] [] pos) (iRng2 ta):=by
 intro pins s σ H R I h
 refine Call_ (ld_blt I hg hm boot_range (PyProof.Rows.callWith_type1 (thn (ha pos pins s σ H _ I h) fun us s1 ⟨vs,H1,I1,r1,q1⟩=>?_) (by rw [hs,hs2]) (by rw [hs2]; rfl)))
 obtain ⟨i,j,e,⟨q1,q2,q3,q4⟩,q⟩:=q1
 subst e
 cases r1 with
 | cons r rr =>
  cases rr with
  | cons r' rr =>
   cases rr
   obtain ⟨t,rfl⟩:=r
   obtain ⟨t',rfl⟩:=r'
   exact call_range_2 (range_it I1 q1 q2 q3 q4 q)
def pinsAt (fp:List Addr) (h:Heap):List (Addr×Obj):=fp.filterMap fun b=>(h.get? b).map fun o=>(b,o)
theorem mem_pinsAt {fp:List Addr} {h:Heap} {b:Addr} {o:Obj} (hb:b∈fp) (e:h.get? b=some o):(b,o)∈pinsAt fp h:=List.mem_filterMap.mpr ⟨b,hb,by rw [e]; rfl⟩
theorem of_pinsAt {fp:List Addr} {h:Heap} {p:Addr×Obj} (hp:p∈pinsAt fp h):p.1∈fp∧h.get? p.1=some p.2:=by
 obtain ⟨b,hb,e⟩:=List.mem_filterMap.mp hp
 cases q:h.get? b with
 | none=>rw [q] at e; cases e
 | some o =>
  rw [q] at e
  have e':(b,o)=p:=Option.some.inj e
  subst e'
  exact ⟨hb,q⟩
theorem Inv.pinned {pins:List (Addr×Obj)} {σ:St} {H:Hp} {s:Shared} {fp:List Addr} (I:Inv X pins σ H s) (hf:∀ b∈fp,FpOk X pins H b) (ho:∀ b∈fp,∃ o,s.heap.get? b=some o∧∀ v,o.data≠.cell v):Inv X (pins++pinsAt fp s.heap) σ H s :=
 I.pins_of fun p hp=>(List.mem_append.mp hp).elim (fun z=>I.pin p (List.mem_append_right _ z)) fun z=>by
  obtain ⟨hb,e⟩:=of_pinsAt z
  obtain ⟨f0,f1,f2,_⟩:=hf p.1 hb
  obtain ⟨o,e',d⟩:=ho p.1 hb
  rw [e] at e'; cases e'
  exact ⟨e,f0,f1,f2,d⟩
theorem Inv.unpinned {pins pl:List (Addr×Obj)} {σ:St} {H:Hp} {s:Shared} (I:Inv X (pins++pl) σ H s):Inv X pins σ H s:=I.pins_of fun p hp=>I.pin p (List.mem_append_right _ (List.mem_append_left _ hp))
end
end L2
namespace L2
open PySem PySem.Spec PyProof.Rows
abbrev R2:=V→V→Hp→VK→Prop
def OpR (X:Cx) (f:Value→Value→Sem Value) (r:R2):Prop :=
 ∀ (pins:List (Addr×Obj)) (s:Shared) (σ:St) (H:Hp) (x y:V) (v u:Value) (Q:VK),Inv X pins σ H s→RelV x v→RelV y u→r x y H Q →
  wpAny (model X.prog X.w) X.A (f v u) (EP X pins σ Q) X.xe s
def UnR (X:Cx) (f:Value→Sem Value) (r:V→Hp→VK→Prop):Prop :=
 ∀ (pins:List (Addr×Obj)) (s:Shared) (σ:St) (H:Hp) (x:V) (v:Value) (Q:VK),Inv X pins σ H s→RelV x v→r x H Q →
  wpAny (model X.prog X.w) X.A (f v) (EP X pins σ Q) X.xe s
def CallR (X:Cx) (f:Value) (r:List V→Hp→VK→Prop):Prop :=
 ∀ (pins:List (Addr×Obj)) (s:Shared) (σ:St) (H:Hp) (xs:List V) (us:List Value) (Q:VK),Inv X pins σ H s→Vals xs us→r xs H Q →
  wpAny (model X.prog X.w) X.A (call f us) (EP X pins σ Q) X.xe s
def tOp (r:R2) (ta tb:TE):TE:=fun σ H Q=>ta σ H fun x H1=>tb σ H1 fun y H2=>r x y H2 Q
def rI (C:Int→Int→Prop) (g:Int→Int→V):R2:=fun x y H Q=>∃ i j,x=.int i∧y=.int j∧C i j∧Q (g i j) H
def rI0 (g:Int→Int→V):R2:=fun x y H Q=>∃ i j,x=.int i∧y=.int j∧Q (g i j) H
def rU (g:Int→V):V→Hp→VK→Prop:=fun x H Q=>∃ i,x=.int i∧Q (g i) H
section
variable {X:Cx} {a b c:Expr} {ta tb tc:TE} {pos:Pos}
theorem binT (ha:PE X a ta) (hb:PE X b tb) {pins:List (Addr×Obj)} {s:Shared} {σ:St} {H:Hp} {R:V→V→Hp→Prop} (I:Inv X pins σ H s)
  (h:ta σ H fun x H1=>tb σ H1 fun y H2=>R x y H2) {Q:Value→Shared→Prop} {f:Value→Value→Sem Value}
  (hf:∀ v u s2 x y H2,Inv X pins σ H2 s2→RelV x v→RelV y u→R x y H2→wpAny (model X.prog X.w) X.A (f v u) Q X.xe s2) :
  wpAny (model X.prog X.w) X.A (eval a X.env) (fun v s₁=>wpAny (model X.prog X.w) X.A (eval b X.env) (fun u s₂=>wpAny (model X.prog X.w) X.A (f v u) Q X.xe s₂) X.xe s₁) X.xe s:=by
 refine thn (ha pins s σ H _ I h) fun v s1 ⟨x,H1,I1,r1,q1⟩=>?_
 refine thn (hb pins s1 σ H1 _ I1 q1) fun u s2 ⟨y,H2,I2,r2,q2⟩=>?_
 exact hf v u s2 x y H2 I2 r1 r2 q2
theorem opI {f:Value→Value→Sem Value} {C:Int→Int→Prop} {g:Int→Int→Int}
  (rule:∀ (i j:Int) (t u:Tok) (s:Shared) (Q:Value→Shared→Prop) (E:Value→Shared→Prop),C i j→Q (.int (g i j) s.toks) { s with toks:=s.toks+1 }→wpAny (model X.prog X.w) X.A (f (.int i t) (.int j u)) Q E s) :
  OpR X f (rI C fun i j=>.int (g i j)):=by
 intro pins s σ H x y v u Q I rx ry h
 obtain ⟨i,j,rfl,rfl,hc,q⟩:=h
 obtain ⟨t,rfl⟩:=rx
 obtain ⟨t',rfl⟩:=ry
 exact rule i j t t' s _ _ hc ⟨.int (g i j),H,I.tok _,⟨_,rfl⟩,q⟩
theorem opI0 {f:Value→Value→Sem Value} {g:Int→Int→Int}
  (rule:∀ (i j:Int) (t u:Tok) (s:Shared) (Q:Value→Shared→Prop) (E:Value→Shared→Prop),Q (.int (g i j) s.toks) { s with toks:=s.toks+1 }→wpAny (model X.prog X.w) X.A (f (.int i t) (.int j u)) Q E s) :
  OpR X f (rI0 fun i j=>.int (g i j)):=by
 intro pins s σ H x y v u Q I rx ry h
 obtain ⟨i,j,rfl,rfl,q⟩:=h
 obtain ⟨t,rfl⟩:=rx
 obtain ⟨t',rfl⟩:=ry
 exact rule i j t t' s _ _ ⟨.int (g i j),H,I.tok _,⟨_,rfl⟩,q⟩
theorem opB0 {f:Value→Value→Sem Value} {g:Int→Int→Bool}
  (rule:∀ (i j:Int) (t u:Tok) (s:Shared) (Q:Value→Shared→Prop) (E:Value→Shared→Prop),Q (.bool (g i j)) s→wpAny (model X.prog X.w) X.A (f (.int i t) (.int j u)) Q E s) :
  OpR X f (rI0 fun i j=>.bl (g i j)):=by
 intro pins s σ H x y v u Q I rx ry h
 obtain ⟨i,j,rfl,rfl,q⟩:=h
 obtain ⟨t,rfl⟩:=rx
 obtain ⟨t',rfl⟩:=ry
 exact rule i j t t' s _ _ ⟨.bl (g i j),H,I,rfl,q⟩
def CPow (i j:Int):Prop:=0≤j∧j≤1000000∧i.natAbs < 2 ^ 64
def CMul (i j:Int):Prop:=(-(2 ^ 64) < i∧i < 2 ^ 64)∨(-(2 ^ 64) < j∧j < 2 ^ 64)
theorem CMul.ok {i j:Int} (h:CMul i j):IntMulOk i j:=by
 rcases h with ⟨h1,h2⟩ | ⟨h1,h2⟩
 ·
  exact .of_left (intBits_le_64 h1 h2)
 ·
  exact .of_right (intBits_le_64 h1 h2)
theorem op_add:OpR X (binaryOp .Add) (rI0 fun i j=>.int (i+j)):=opI0 fun _ _ _ _ _ _ _ q=>add_int q
theorem op_sub:OpR X (binaryOp .Sub) (rI0 fun i j=>.int (i - j)):=opI0 fun _ _ _ _ _ _ _ q=>sub_int q
theorem op_modN:OpR X (binaryOp .Mod) (rI (fun _ j=>j≠0) fun i j=>.int (i.fmod j)):=opI fun _ _ _ _ _ _ _ hc q=>mod_int' hc q
theorem op_pow:OpR X (binaryOp .Pow) (rI CPow fun i j=>.int (i ^ j.toNat)):=opI fun _ _ _ _ _ _ _ hc q=>pow_int_small hc.1 hc.2.1 hc.2.2 q
theorem unI {f:Value→Sem Value} {g:Int→Int}
  (rule:∀ (i:Int) (t:Tok) (s:Shared) (Q:Value→Shared→Prop) (E:Value→Shared→Prop),Q (.int (g i) s.toks) { s with toks:=s.toks+1 }→wpAny (model X.prog X.w) X.A (f (.int i t)) Q E s) :
  UnR X f (rU fun i=>.int (g i)):=by
 intro pins s σ H x v Q I rx h
 obtain ⟨i,rfl,q⟩:=h
 obtain ⟨t,rfl⟩:=rx
 exact rule i t s _ _ ⟨.int (g i),H,I.tok _,⟨_,rfl⟩,q⟩
theorem un_neg:UnR X (unaryOp .USub) (rU fun i=>.int (-i)):=unI fun _ _ _ _ _ q=>neg_int q
end
section
variable {X:Cx} {a b c:Expr} {ta tb tc:TE} {pos:Pos}
theorem op_lt:OpR X (compareOp .Lt) (rI0 fun i j=>.bl (decide (i < j))):=opB0 fun _ _ _ _ _ _ _ q=>lt_int q
theorem op_le:OpR X (compareOp .LtE) (rI0 fun i j=>.bl (decide (i≤j))):=opB0 fun _ _ _ _ _ _ _ q=>le_int q
theorem op_gt:OpR X (compareOp .Gt) (rI0 fun i j=>.bl (decide (j < i))):=opB0 fun _ _ _ _ _ _ _ q=>gt_int q
theorem op_ge:OpR X (compareOp .GtE) (rI0 fun i j=>.bl (decide (j≤i))):=opB0 fun _ _ _ _ _ _ _ q=>ge_int q
theorem nomark (b:Expr) {op:CmpOp} (h:op≠.In:=by decide) (h2:op≠.NotIn:=by decide):behindInMarks op b=false:=by
 have e1:(op == CmpOp.In)=false:=by cases op <;> first | rfl | exact absurd rfl h
 have e2:(op == CmpOp.NotIn)=false:=by cases op <;> first | rfl | exact absurd rfl h2
 cases b <;> simp [behindInMarks,e1,e2]
def tChain (r r':R2) (ta tb tc:TE):TE:=fun σ H Q=>ta σ H fun x H1=>tb σ H1 fun y H2=>r x y H2 fun z H3=>∃ k,z=.bl k ∧
 (if k=true then tc σ H3 fun w' H4=>r' y w' H4 Q else Q (.bl false) H3)
theorem pe_chain {op op':CmpOp} {r r':R2} (ho:OpR X (compareOp op) r) (ho':OpR X (compareOp op') r') (ha:PE X a ta) (hb:PE X b tb) (hc:PE X c tc)
  (hm:lastMarks [op,op'] [b,c]=false:=by with_unfolding_all rfl):PE X (.Compare a [op,op'] [b,c] pos) (tChain r r' ta tb tc):=by
 intro pins s σ H Q I h
 refine Compare_chain (thn (ha pins s σ H _ I h) fun v s1 ⟨x,H1,I1,r1,q1⟩=>chain_link (thn (hb pins s1 σ H1 _ I1 q1) fun u s2 ⟨y,H2,I2,r2,q2⟩ =>
  thn (ho pins s2 σ H2 x y v u _ I2 r1 r2 q2) fun d s3 ⟨z,H3,I3,r3,k,e,q3⟩=>?_)) hm
 subst e
 cases r3
 refine wpAny_truthy_bool ?_
 cases k with
 | false=>exact ite_ff ⟨.bl false,H3,I3,rfl,q3⟩
 | true=>exact ite_tt (chain_last (thn (hc pins s3 σ H3 _ I3 q3) fun w' s4 ⟨z',H4,I4,r4,q4⟩=>ho' pins s4 σ H4 y z' u w' Q I4 r2 r4 q4))
theorem line63:(sizeLine:Nat) < 2 ^ 63:=by rw [sizeLine_eq]; decide
theorem op_add_str:OpR X (binaryOp .Add) (fun x y H Q=>∃ i j,x=.str i∧y=.str j∧i.length+j.length≤sizeLine∧Q (.str (i++j)) H):=by
 intro pins s σ H x y v u Q I rx ry h
 obtain ⟨i,j,rfl,rfl,hz,q⟩:=h
 obtain ⟨t,rfl⟩:=rx
 obtain ⟨t',rfl⟩:=ry
 exact add_str (fun t' tk=>⟨.str (i++j),H,I.tok _,⟨_,rfl⟩,q⟩) hz
theorem vals1 {x:V} {us:List Value} (r:Vals [x] us):∃ u,us=[u]∧RelV x u:=by
 cases r with
 | cons r1 r2=>cases r2; exact ⟨_,rfl,r1⟩
theorem vals2 {x y:V} {us:List Value} (r:Vals [x,y] us):∃ u w',us=[u,w']∧RelV x u∧RelV y w':=by
 cases r with
 | cons r1 r2 =>
  cases r2 with
  | cons r3 r4=>cases r4; exact ⟨_,_,rfl,r1,r3⟩
theorem call_abs:CallR X (.builtin "abs") (fun xs H Q=>∃ i,xs=[.int i]∧Q (.int (if i < 0 then -i else i)) H):=by
 intro pins s σ H xs us Q I r h
 obtain ⟨i,rfl,q⟩:=h
 obtain ⟨u,rfl,t,rfl⟩:=vals1 r
 exact call_abs_int fun u tk=>⟨.int (if i < 0 then -i else i),H,I.tok _,⟨_,rfl⟩,q⟩
theorem call_max2 (hc:X.calm=true):CallR X (.builtin "max") (fun xs H Q=>∃ i j,xs=[.int i,.int j]∧Q (.int (if j > i then j else i)) H):=by
 intro pins s σ H xs us Q I r h
 obtain ⟨i,j,rfl,q⟩:=h
 obtain ⟨u,w',rfl,⟨t,rfl⟩,⟨t',rfl⟩⟩:=vals2 r
 refine max_two_ints (I.ok.hd hc) fun h' tk k=>⟨_,H,I.kept k,?_,q⟩
 by_cases hj:j > i
 ·
  rw [if_pos hj,if_pos hj]; exact ⟨_,rfl⟩
 ·
  rw [if_neg hj,if_neg hj]; exact ⟨_,rfl⟩
theorem call_min2 (hc:X.calm=true):CallR X (.builtin "min") (fun xs H Q=>∃ i j,xs=[.int i,.int j]∧Q (.int (if j < i then j else i)) H):=by
 intro pins s σ H xs us Q I r h
 obtain ⟨i,j,rfl,q⟩:=h
 obtain ⟨u,w',rfl,⟨t,rfl⟩,⟨t',rfl⟩⟩:=vals2 r
 refine min_two_ints (I.ok.hd hc) fun h' tk k=>⟨_,H,I.kept k,?_,q⟩
 by_cases hj:j < i
 ·
  rw [if_pos hj,if_pos hj]; exact ⟨_,rfl⟩
 ·
  rw [if_neg hj,if_neg hj]; exact ⟨_,rfl⟩
theorem call_int1:CallR X (.type "int") (fun xs H Q=>(∃ i,xs=[.int i]∧Q (.int i) H)∨∃ k,xs=[.bl k]∧Q (.int (if k then 1 else 0)) H):=by
 intro pins s σ H xs us Q I r h
 rcases h with ⟨i,rfl,q⟩ | ⟨k,rfl,q⟩
 ·
  obtain ⟨u,rfl,t,rfl⟩:=vals1 r
  exact call_int_int ⟨.int i,H,I,⟨_,rfl⟩,q⟩
 ·
  obtain ⟨u,rfl,r1⟩:=vals1 r
  cases r1
  exact call_int_bool ⟨.int (if k then 1 else 0),H,I.tok _,⟨_,rfl⟩,q⟩
end
end L2
namespace L2
open PySem PySem.Spec PyProof.Rows
section
variable {prog:Program} {w:World} {A:Around} {E:Value→Shared→Prop} {s:Shared} {K:PySem.W.Frag} {x dx C f:Addr} {mA:Str→Option Value} {name:Str} {v:Value}
end
section
variable {P:Program} {w:World} {H H':Hp} {h h':Heap} {a C dx:Addr} {fs fs':List (Str×V)}
end
section
variable {X:Cx} {pins:List (Addr×Obj)} {σ:St} {H:Hp} {s:Shared} {a C dx:Addr} {fs:List (Str×V)} {f:Str} {v:V} {A:Around} {E:Value→Shared→Prop}
end
section
variable {X:Cx} {o e value:Expr} {f:Str} {pos pos' tpos:Pos} {ta tv:TE}
end
section
variable {X:Cx} {pins:List (Addr×Obj)} {σ:St} {H:Hp} {s:Shared} {A:Around} {E:Value→Shared→Prop} {Q:Value→Shared→Prop} {c:Value} {b:Bool}
end
end L2
namespace L2
open PySem PySem.Spec PyProof.Rows
structure Room (k:Nat) (A:Around):Prop where
 hd:A.handled=none
 dp:A.depth+3*k+5 < recursionLimit
 un:A.units+16*k+200 < cLine
 gd:A.guards=some []
theorem Room.mono {j k:Nat} {A:Around} (r:Room k A) (h:j≤k):Room j A:=⟨r.hd,by have:=r.dp; omega,by have:=r.un; omega,r.gd⟩
theorem Room.deeper {k:Nat} {A:Around} (r:Room (k+1) A) (env:Env):Room k (A.deeper env) :=
 ⟨r.hd,by have:=r.dp; show A.depth+1+3*k+5 < _; omega,by have:=r.un; show A.units+3+16*k+200 < _; omega,r.gd⟩
theorem Room.depth {k:Nat} {A:Around} (r:Room k A):A.depth < recursionLimit:=by have:=r.dp; omega
theorem Room.units {k:Nat} {A:Around} (r:Room k A):A.units+64 < cLine:=by have:=r.un; omega
def tNil:TA:=fun _ H Q=>Q [] H
def tCons (ta:TE) (tr:TA):TA:=fun σ H Q=>ta σ H fun x H1=>tr σ H1 fun xs H2=>Q (x::xs) H2
section
variable {X:Cx} {e:Expr} {es:List Expr} {te:TE} {t:TA} {pos:Pos}
theorem pa_nil:PA X [] tNil:=fun _ _ _ _ H Q I h=>Calls.spliced_nil ⟨[],H,I,.nil,h⟩
theorem pa_cons (ha:PE X e te) (hr:PA X es t) (hs:starEach (e::es) X.env=(false,eval e X.env)::starEach es X.env:=by rfl):PA X (e::es) (tCons te t):=by
 intro pos pins s σ H Q I h
 rw [hs]
 show wpAny _ _ (spliced ((false,eval e X.env)::backTo pos (starEach es X.env))) _ _ s
 refine Calls.spliced_cons (thn (ha pins s σ H _ I h) fun u s1 ⟨x,H1,I1,r1,q1⟩=>?_)
 exact thn (hr pos pins s1 σ H1 _ I1 q1) fun us s2 ⟨xs,H2,I2,r2,q2⟩=>⟨x::xs,H2,I2,.cons r1 r2,q2⟩
end
abbrev Sp:=List V→Hp→VK→XK→Prop
abbrev CXT:=List Env→Hp→Shared→XK→Value→Shared→Prop
structure Env0 (P:Program) (w:World) (K:PySem.W.Frag) (mg:Str→Option Value) (base:Heap) (A:Around) (outer:List Env) (s:Shared) (H:Hp):Prop where
 frames:A.frames=some outer
 mod:Mod K mg base
 bs:∀ b o,base.get? b=some o→s.heap.get? b=some o∧H b=none
 bsz:base.objs.size≤s.heap.objs.size
 funs:s.heap.FunFrames base outer
 frf:∀ b∈frs outer,H b=none
 hok:HOk P w H s.heap
 bare:AllBare s.gens
def CE (outer:List Env) (P:Program) (w:World) (H:Hp) (s:Shared) (Q:VK) (u:Value) (s':Shared):Prop :=
 ∃ v H',s'.os=s.os∧AllBare s'.gens∧Un (frs outer) [] H H' s.heap s'.heap∧HOk P w H' s'.heap∧RelV v u∧Q v H'
def CR (CX:CXT) (outer:List Env) (P:Program) (w:World) (H:Hp) (s:Shared) (Q:VK) (E:XK) (r:Result) (s':Shared):Prop :=
 match r with
 | .ok (.ret u)=>CE outer P w H s Q u s'
 | .ok _=>False
 | .error e=>CX outer H s E e s'
structure FnOk (P:Program) (w:World) (K:PySem.W.Frag) (mg:Str→Option Value) (base:Heap) (CX:CXT) (k:Nat) (f:Addr) (fd:FuncData) (ps:List Str) (sp:Sp):Prop where
 len:∀ vs H Q E,sp vs H Q E→vs.length=ps.length
 run:∀ (A:Around) (outer:List Env) (s:Shared) (H:Hp) (args:Args) (us:List Value) (vs:List V) (Q:VK) (E:XK),Room k A→Env0 P w K mg base A outer s H→BindsTo s fd args (ps.zip us)→Vals vs us→sp vs H Q E →
  codeAny (model P w) A (.call (.ref f) args) (CR CX outer P w H s Q E) s
theorem FnOk.mono {P:Program} {w:World} {K:PySem.W.Frag} {mg:Str→Option Value} {base:Heap} {CX:CXT} {j k:Nat} {f:Addr} {fd:FuncData} {ps:List Str} {sp:Sp} (F:FnOk P w K mg base CX j f fd ps sp) (h:j≤k) :
  FnOk P w K mg base CX k f fd ps sp:=⟨F.len,fun A outer s H args us vs Q E hr=>F.run A outer s H args us vs Q E (hr.mono h)⟩
section
variable {X:Cx} {pins:List (Addr×Obj)} {σ:St} {H:Hp} {s s':Shared}
theorem Inv.env0 (I:Inv X pins σ H s):Env0 X.prog X.w X.K X.mg X.base X.A X.stack s H :=
 ⟨I.ok.frames,I.ok.mod,I.bs,Nat.le_trans I.ok.bsz I.sz,I.stack,I.stkFree,I.hok,I.bare⟩
theorem Inv.after {Q:VK} {u:Value} (I:Inv X pins σ H s) (h:CE X.stack X.prog X.w H s Q u s'):EP X pins σ Q u s':=by
 obtain ⟨v,H',os,bare,un,hok,r,q⟩:=h
 obtain ⟨hh,g,d,t,os'⟩:=s'
 obtain rfl:os'=s.os:=os
 exact ⟨v,H',I.call (h':=hh) (g':=g) (d':=d) (t':=t) (ch:=[]) un hok bare (fun b z=>absurd z (by simp)),r,q⟩
end
def Binds (K:PySem.W.Frag) (fd:FuncData) (ps:List Str) (ds:List Value):Prop :=
 ∀ (s:Shared) (us:List Value),K.In s.heap→(us++ds).length=ps.length→BindsTo s fd ⟨us,[]⟩ (ps.zip (us++ds))
theorem Binds.all {K:PySem.W.Frag} {fd:FuncData} {ps:List Str} (h:∀ us:List Value,us.length=ps.length→bindArgs fd ⟨us,[]⟩=pure (ps.zip us)):Binds K fd ps []:=fun s us _ hl=>by
 rw [List.append_nil] at hl ⊢
 exact .of_eq (h us hl)
def Passes (CX:CXT) (X:Cx) (E:XK):Prop:=∀ (pins:List (Addr×Obj)) (σ:St) (H:Hp) (s:Shared) (e:Value) (s':Shared),Inv X pins σ H s→CX X.stack H s E e s'→X.xe e s'
section
variable {X:Cx} {CX:CXT} {k:Nat} {f C:Addr} {fd:FuncData} {ps:List Str} {sp:Sp} {dvs:List V} {ds:List Value} {E:XK} {x m:Str} {p pos apos:Pos} {e o:Expr} {es:List Expr} {ta:TE} {t:TA}
theorem run_fn {pins:List (Addr×Obj)} {σ:St} {H:Hp} {s:Shared} {Q:VK} {us:List Value} {vs:List V} (F:FnOk X.prog X.w X.K X.mg X.base CX k f fd ps sp) (hr:Room k X.A) (hb:Binds X.K fd ps ds) (hd:Vals dvs ds) (hx:Passes CX X E)
  (I:Inv X pins σ H s) (r:Vals vs us) (h:sp (vs++dvs) H Q E):wpAny (model X.prog X.w) X.A (call (.ref f) us) (EP X pins σ Q) X.xe s:=by
 have r2:Vals (vs++dvs) (us++ds):=r.append hd
 have hl:(us++ds).length=ps.length:=by rw [← r2.length]; exact F.len _ _ _ _ h
 refine wpAny_call (codeAny_mono (F.run X.A X.stack s H ⟨us,[]⟩ (us++ds) (vs++dvs) Q E hr I.env0 (hb s us I.kIn hl) r2 h) fun r s' hq=>?_)
 cases r with
 | error e=>exact hx pins σ H s e s' I hq
 | ok fl =>
  cases fl with
  | ret u=>exact I.after hq
  | next=>exact False.elim hq
  | brk=>exact False.elim hq
  | cont=>exact False.elim hq
end
section
variable {X:Cx} {CX:CXT} {k:Nat} {f C:Addr} {fd:FuncData} {ps ks:List Str} {sp:Sp} {E:XK} {x m:Str} {p pos apos kpos:Pos} {e o:Expr} {es:List Expr} {kws:List Keyword} {te ta:TE} {t tk:TA} {nm:Option Str}
variable {g:List Value→List Value→List Value} {gV:List V→List V→List V}
end
structure FnScope (N P:List Str) (sc:Scope):Prop where
 kind:sc.kind=.function
 co:sc.isCoroutine=false
 gen:sc.isGenerator=false
 nd:N.Nodup
 pre:N.take P.length=P
 par:∀ x∈P,sc.names.lookup x=some .local∨sc.names.lookup x=some .cell
 nofree:∀ y∈sc.names,y.2≠.free
theorem bindL_out {kindOf:Str→Option NameKind} {x:Str}:∀ {binds:List (Str×Value)} {m:Str→Option Value},(∀ v,(x,v)∉binds)→bindL kindOf binds m x=m x
 | [],_,_=>rfl
 | (n,v)::r,m,h=>by
  unfold bindL
  rw [bindL_out fun w hw=>h w (List.mem_cons_of_mem _ hw)]
  split
  ·
   have:x≠n:=by rintro rfl; exact h v List.mem_cons_self
   simp [this]
  ·
   rfl
theorem bindC_out {kindOf:Str→Option NameKind} {x:Str}:∀ {binds:List (Str×Value)} {m:Str→Option Value},(∀ v,(x,v)∉binds)→bindC kindOf binds m x=m x
 | [],_,_=>rfl
 | (n,v)::r,m,h=>by
  unfold bindC
  rw [bindC_out fun w hw=>h w (List.mem_cons_of_mem _ hw)]
  split
  ·
   rfl
  ·
   have:x≠n:=by rintro rfl; exact h v List.mem_cons_self
   simp [this]
theorem bindL_get {kindOf:Str→Option NameKind} {x:Str} {v:Value}:∀ {P:List Str} {vs:List Value} {i:Nat} {m:Str→Option Value},P.Nodup→P[i]?=some x→vs[i]?=some v→kindOf x=some .local →
  bindL kindOf (P.zip vs) m x=some v
 | [],_,_,_,_,h,_,_=>by simp at h
 | _::_,[],_,_,_,_,h,_=>by simp at h
 | p::P,w::vs,0,m,nd,h1,h2,hk=>by
  simp at h1 h2; subst h1; subst h2
  show bindL kindOf ((p,w)::P.zip vs) m p=_
  unfold bindL
  rw [bindL_out fun v hv=>(List.nodup_cons.mp nd).1 (List.of_mem_zip hv).1,if_pos hk]
  simp
 | p::P,w::vs,i+1,m,nd,h1,h2,hk=>by
  show bindL kindOf ((p,w)::P.zip vs) m x=_
  unfold bindL
  exact bindL_get (i:=i) (List.nodup_cons.mp nd).2 (by simpa using h1) (by simpa using h2) hk
theorem bindC_get {kindOf:Str→Option NameKind} {x:Str} {v:Value}:∀ {P:List Str} {vs:List Value} {i:Nat} {m:Str→Option Value},P.Nodup→P[i]?=some x→vs[i]?=some v→kindOf x≠some .local →
  bindC kindOf (P.zip vs) m x=some v
 | [],_,_,_,_,h,_,_=>by simp at h
 | _::_,[],_,_,_,_,h,_=>by simp at h
 | p::P,w::vs,0,m,nd,h1,h2,hk=>by
  simp at h1 h2; subst h1; subst h2
  show bindC kindOf ((p,w)::P.zip vs) m p=_
  unfold bindC
  rw [bindC_out fun v hv=>(List.nodup_cons.mp nd).1 (List.of_mem_zip hv).1,if_neg hk]
  simp
 | p::P,w::vs,i+1,m,nd,h1,h2,hk=>by
  show bindC kindOf ((p,w)::P.zip vs) m x=_
  unfold bindC
  exact bindC_get (i:=i) (List.nodup_cons.mp nd).2 (by simpa using h1) (by simpa using h2) hk
def start (N:List Str) (vs:List V):St:=vs.map some++List.replicate (N.length - vs.length) none
def cxOf (CX:CXT) (P:Program) (w:World) (K:PySem.W.Frag) (mg:Str→Option Value) (base:Heap) (N:List Str) (qual:Str) (scope:Scope) (f:Addr) (cd:Value) (A:Around) (outer:List Env) (s:Shared) (H:Hp) (E:XK):Cx where
 prog:=P
 w:=w
 K:=K
 mg:=mg
 base:=base
 A:=A.deeper (envOfC qual scope s.heap.objs.size f cd)
 N:=N
 s₀:=s
 H₀:=H
 env:=envOfC qual scope s.heap.objs.size f cd
 outer:=outer
 stack:=envOfC qual scope s.heap.objs.size f cd::outer
 ex:=[]
 calm:=true
 fn:=fun _=>true
 pn:=[]
 xe:=fun e s'=>wpAny (model P w) (A.deeper (envOfC qual scope s.heap.objs.size f cd)) (leaving (envOfC qual scope s.heap.objs.size f cd) e) (fun _ s''=>CX outer H s E e s'') (fun e' s''=>CX outer H s E e' s'') s'
theorem cell_has {sc:Scope} {n:Nat} {x:Str} (h:sc.names.lookup x=some .cell):∃ c,(cellsFrom n sc.names []).lookup x=some c:=by
 have q:=PySem.W.cellsFrom_some sc.names n [] (.inl h)
 exact Option.isSome_iff_exists.mp q
theorem inv_start {CX:CXT} {P:Program} {w:World} {K:PySem.W.Frag} {mg:Str→Option Value} {base:Heap} {N ps:List Str} {qual:Str} {scope:Scope} {f:Addr} {cd:Value} {A:Around} {outer:List Env} {s s1:Shared} {H:Hp} {E:XK} {us:List Value} {vs:List V}
  (S:FnScope N ps scope) (hd:A.handled=none) (e0:Env0 P w K mg base A outer s H) (hl:vs.length=ps.length) (r:Vals vs us)
  (x:InCallC s s.heap.objs.size (bindL (envOfC qual scope s.heap.objs.size f cd).kindOf (ps.zip us) fun _=>none) (cellsFrom (s.heap.objs.size+1) scope.names []) (bindC (envOfC qual scope s.heap.objs.size f cd).kindOf (ps.zip us) fun _=>none) s1) :
  Inv (cxOf CX P w K mg base N qual scope f cd A outer s H E) [] (start N vs) H s1:=by
 have hpl:ps.length≤N.length:=by have:=congrArg List.length S.pre; rw [List.length_take] at this; omega
 obtain ⟨h1,tk,rfl,hk⟩:=x.done
 have noA:∀ b:Addr,b∉(cxOf CX P w K mg base N qual scope f cd A outer s H E).ex:=fun b z=>absurd (show b∈([]:List Addr) from z) (by simp)
 refine ⟨⟨e0.mod,S.kind,rfl,rfl,Nat.le_refl _,fun y z c h1 h2=>?_,fun y hy=>?_,fun y c _ h=>?_,fun _=>hd,Around.frames_deeper e0.frames,.inr ⟨rfl,rfl⟩,fun b z=>absurd z (noA b),e0.bs,e0.bsz,fun b _ _=>noA b,fun b z=>absurd z (noA b),e0.funs,e0.frf⟩,
  rfl,e0.bare,Un.kept hk,⟨_,x.toInCall.ns,fun i y v h1 h2 h3=>?_⟩,fun y c h=>⟨_,x.cell y c h⟩,e0.hok.fresh (Nat.le_refl _),fun y c h=>?_,fun p hp=>absurd (show p∈([]:List (Addr×Obj)) from hp) (by simp),e0.hok.kept hk,?_⟩
 ·
  exact name_of_addr x.apart (PySem.mem_of_lookup h1) (PySem.mem_of_lookup h2)
 ·
  have hy:scope.names.lookup y=some .cell∨scope.names.lookup y=some .free:=hy
  rcases hy with hy | hy
  ·
   exact cell_has hy
  ·
   exact absurd rfl (S.nofree _ (PySem.mem_of_lookup hy))
 ·
  exact Nat.le_of_lt (x.above y c (PySem.mem_of_lookup h))
 ·
  have hi:i < vs.length:=by
   unfold start at h2
   by_cases hi:i < vs.length
   ·
    exact hi
   ·
    rw [List.getElem?_append_right (by simpa using hi)] at h2
    rw [List.getElem?_replicate] at h2
    split at h2 <;> cases h2
  have ha:vs[i]?=some v:=by
   unfold start at h2
   rw [List.getElem?_append_left (by simpa using hi),List.getElem?_map] at h2
   cases e:vs[i]? with
   | none=>rw [e] at h2; cases h2
   | some a=>rw [e] at h2; cases h2; rfl
  obtain ⟨u,hu,rv⟩:=r.get ha
  have hp:ps[i]?=some y:=by
   rw [← S.pre,List.getElem?_take_of_lt (by omega)]; exact h1
  have ndP:ps.Nodup:=by rw [← S.pre]; exact S.nd.sublist (List.take_sublist _ _)
  refine ⟨u,rv,?_⟩
  rcases S.par y (List.mem_of_getElem? hp) with k | k
  ·
   exact .inl ⟨k,bindL_get ndP hp hu k⟩
  ·
   obtain ⟨c,e⟩:=cell_has (n:=s.heap.objs.size+1) k
   refine .inr ⟨.inl k,c,e,?_⟩
   have q:=x.cell y c e
   rw [bindC_get ndP hp hu (by show scope.names.lookup y≠_; rw [k]; decide)] at q
   exact q
 ·
  exact e0.hok.fresh (Nat.le_of_lt (x.above y c (PySem.mem_of_lookup h)))
 ·
  unfold start
  show _=N.length
  rw [List.length_append,List.length_map,List.length_replicate]
  omega
theorem fn_of {CX:CXT} {P:Program} {w:World} {K:PySem.W.Frag} {mg:Str→Option Value} {base:Heap} {k:Nat} {f:Addr} {name qual:Str} {params:Arguments} {body:List Stmt} {scope:Scope} {dV kV doc pm cdv ct oc:Value} {an od:Option Addr}
  {osl:Array (Option Value)} {N ps:List Str} {sp:Sp} (lk:K.lookup f=some ⟨oc,od,.func (PySem.W.fnOf name qual params body scope dV kV doc pm an cdv ct),osl⟩) (hcd:PySem.W.codeIn K cdv qual=true) (S:FnScope N ps scope)
  (len:∀ vs H Q E,sp vs H Q E→vs.length=ps.length)
  (hbody:∀ (A:Around) (outer:List Env) (s:Shared) (H:Hp) (vs:List V) (Q:VK) (E:XK),Room k (A.deeper (envOfC qual scope s.heap.objs.size f cdv))→sp vs H Q E →
   ∃ t,PSs (cxOf CX P w K mg base N qual scope f cdv A outer s H E) body t∧t { nx:=fun _ H'=>Q .non H',rt:=Q } (start N vs) H) :
  FnOk P w K mg base CX (k+1) f (PySem.W.fnOf name qual params body scope dV kV doc pm an cdv ct) ps sp:=by
 refine ⟨len,fun A outer s H args us vs Q E hr e0 hb r hsp=>?_⟩
 have hl:=len _ _ _ _ hsp
 have KX:K.In s.heap:=e0.mod.kin.keeps fun b o e=>(e0.bs b o e).1
 have lim:s.heap.NoLimit:=e0.mod.nolimit.keeps fun b o e=>(e0.bs b o e).1
 have hkind:∀ y∈ps.zip us,scope.names.lookup y.1=some .local∨(scope.names.lookup y.1=some .cell∧((cellsFrom (s.heap.objs.size+1) scope.names []).lookup y.1).isSome=true):=fun ⟨n,v⟩ hy=>by
  rcases S.par n (List.of_mem_zip hy).1 with q | q
  ·
   exact .inl q
  ·
   exact .inr ⟨q,PySem.W.cellsFrom_some _ _ _ (.inl q)⟩
 refine codeAny_call_function hr.depth (KX _ _ lk) rfl S.co S.gen rfl (PySem.W.codeRec_of KX hcd) (hb _ _ _ _ ?_)
 refine wpAny_newFunctionEnv_cells S.kind hkind fun env he s1 x=>?_
 subst he
 refine ⟨lim.keeps x.toInCall.keep,codeAny_func ?_⟩
 obtain ⟨t,ht,hq⟩:=hbody A outer s H vs Q E (hr.deeper _) hsp
 have I:Inv (cxOf CX P w K mg base N qual scope f cdv A outer s H E) [] (start N vs) H s1:=inv_start S hr.hd e0 hl r x
 refine wpAny_mono (ht [] s1 (start N vs) H _ I hq) (fun fl s' hs=>?_) fun e s' hs=>hs
 have fin:∀ {σ':St} {H':Hp} {v:V} {u:Value},Inv (cxOf CX P w K mg base N qual scope f cdv A outer s H E) [] σ' H' s'→RelV v u→Q v H'→CE outer P w H s Q u s' :=
  fun {σ' H' v u} J rv q=>⟨v,H',J.os,J.bare,J.base,J.hok,rv,q⟩
 cases fl with
 | ret u =>
  obtain ⟨v,σ',H',J,rv,q⟩:=hs
  exact fin J rv q
 | next =>
  obtain ⟨σ',H',J,q⟩:=hs
  exact fin (v:=V.non) (u:=Value.none) J rfl q
 | brk =>
  obtain ⟨_,_,_,q⟩:=hs
  exact False.elim q
 | cont =>
  obtain ⟨_,_,_,q⟩:=hs
  exact False.elim q
end L2
namespace L2
open PySem PySem.Spec PyProof.Rows
section
variable {X:Cx} {x:Str} {p pos:Pos} {e:Expr} {es:List Expr} {t:TA} {id T:String} {r:List V→Hp→VK→Prop}
def tCB (r:List V→Hp→VK→Prop) (t:TA):TE:=fun σ H Q=>t σ H fun vs H1=>r vs H1 Q
theorem pe_callB (hc:CallR X (.builtin id) r) (hg:Gl X x) (hm:X.mg x=none) (hv:bootBuiltins x=some (.builtin id)) (ha:PA X (e::es) t) (hn:x≠"__name__":=by decide) (hdb:(x == ("__debug__" : Str))=false:=by decide)
  (he:starEach (e::es) X.env=(false,eval e X.env)::starEach es X.env:=by rfl) (hpl:(backTo pos (starEach es X.env)).any (·.1)=false:=by rfl):PE X (.Call (.Name x p) (e::es) [] pos) (tCB r t):=by
 intro pins s σ H Q I h
 refine wpAny_Call_Name_kw (ld_blt I hg hm hv ?_ hn hdb)
 exact PyProof.Rows.callWith_builtin1 (thn (ha pos pins s σ H _ I h) fun us s1 ⟨vs,H1,I1,r1,q1⟩=>hc pins s1 σ H1 vs us Q I1 r1 q1) he hpl
end
end L2
namespace HT
open PySem PyProof.Rows
section
open PySem.SeqAt
open PySem.AutoSeq1 (wpAny_loadPart')
open PySem.MeetsSeq PySem.MeetsSeq2 PySem.MeetsSeq3
end
section
variable {prog:Program} {w:World} {A:Around} {E:Value→Shared→Prop} {s:Shared}
def sIx (n d:Nat):Option Int→Nat
 | none=>d
 | some v=>if v < 0 then (v+(n:Int)).toNat else min v.toNat n
theorem sIx_le (n d:Nat) (hd:d≤n) (o:Option Int):sIx n d o≤n:=by
 cases o with
 | none=>exact hd
 | some v =>
  show (if v < 0 then (v+(n:Int)).toNat else min v.toNat n)≤n
  by_cases hv:v < 0
  ·
   rw [if_pos hv]; omega
  ·
   rw [if_neg hv]; exact Nat.min_le_right _ _
theorem clip_eq (v:Int) (n d:Nat):(if v < 0 then max (v+(n:Int)) 0 else min v (n:Int))=((sIx n d (some v):Nat):Int):=by
 show (if v < 0 then max (v+(n:Int)) 0 else min v (n:Int))=(((if v < 0 then (v+(n:Int)).toNat else min v.toNat n):Nat):Int)
 by_cases hv:v < 0
 ·
  simp only [if_pos hv]; omega
 ·
  simp only [if_neg hv]; omega
theorem adjust_gen (lo hi:Option Int) (n:Nat):Builtin.Slice.sliceAdjust lo hi 1 (n:Int)=(((sIx n 0 lo:Nat):Int),((sIx n n hi:Nat):Int)):=by
 have h1:¬ ((1:Int) < 0):=by omega
 unfold Builtin.Slice.sliceAdjust
 simp only [h1,if_false]
 refine Prod.ext ?_ ?_
 ·
  cases lo with
  | none=>rfl
  | some v=>exact clip_eq v n 0
 ·
  cases hi with
  | none=>rfl
  | some v=>exact clip_eq v n n
theorem places_gen (i j:Nat):Builtin.Slice.slicePlaces (i:Int) (j:Int) 1=j - i:=by
 unfold Builtin.Slice.slicePlaces
 have h1:(1:Int) > 0:=by omega
 simp only [h1,if_true,Int.ediv_one]
 split <;> omega
theorem slicePart_ {v:Value} {o:Option Int} {Q:Option Int→Shared→Prop} (p:IsPart v o) (h:Q o s):wpAny (model prog w) A (Builtin.Slice.slicePartIndex v) Q E s:=by
 cases p with
 | none=>exact slicePart_none h
 | int i t=>exact slicePart_int h
theorem sliceApplied_gen {sl:Addr} {vl vu:Value} {lo hi:Option Int} {n:Nat} {Q:Int×Int×Nat→Shared→Prop} (hs:s.heap.IsSliceOf sl vl vu .none) (pl:IsPart vl lo) (pu:IsPart vu hi)
  (h:Q (((sIx n 0 lo:Nat):Int),1,sIx n n hi - sIx n 0 lo) s):wpAny (model prog w) A (Builtin.Slice.sliceApplied (.ref sl) (pure (n:Int))) Q E s:=by
 obtain ⟨os,hos,hcs,hds⟩:=id hs
 unfold Builtin.Slice.sliceApplied Builtin.Slice.sliceFields
 refine wpAny_bind (wpAny_bind (wpAny_field hos hds (x:=vl) rfl (wpAny_bind (wpAny_field hos hds (x:=vu) rfl (wpAny_bind (wpAny_field hos hds (x:=.none) rfl (wpAny_pure ?_)))))))
 refine wpAny_bind (slicePart_none ?_)
 show wpAny _ _ (if ((1:Int) == 0)=true then _ else _) _ _ s
 rw [if_neg (by decide)]
 refine wpAny_bind (slicePart_ pl (wpAny_bind (slicePart_ pu (wpAny_bind (wpAny_pure ?_)))))
 show wpAny _ _ (match Builtin.Slice.sliceAdjust lo hi 1 (n:Int) with | (lo,hi)=>pure (lo,(1:Int),Builtin.Slice.slicePlaces lo hi 1)) _ _ s
 rw [adjust_gen lo hi n]
 show wpAny _ _ (pure (((sIx n 0 lo:Nat):Int),(1:Int),Builtin.Slice.slicePlaces ((sIx n 0 lo:Nat):Int) ((sIx n n hi:Nat):Int) 1)) _ _ s
 rw [places_gen]
 exact wpAny_pure h
theorem pick_gen (xs:Array Value) (i k:Nat):((List.range k).filterMap fun (m:Nat)=>xs[((i:Int)+(m:Int)*1).toNat]?).toArray=((xs.toList.drop i).take k).toArray:=by
 have e:(fun (m:Nat)=>xs[((i:Int)+(m:Int)*1).toNat]?)=fun m=>xs[i+m]?:=by
  funext m
  have:((i:Int)+(m:Int)*1).toNat=i+m:=by omega
  rw [this]
 rw [e]
 have:=pick_run xs i k
 rw [List.filterMap_map] at this
 have e2:((fun x=>xs[x]?) ∘ fun x=>i+x)=fun m=>xs[i+m]?:=rfl
 rw [e2] at this
 rw [this]
theorem getItem_tuple_cut {t sl:Addr} {items:Array Value} {vl vu:Value} {lo hi:Option Int} {Q:Value→Shared→Prop} (ht:IsTup s.heap t items) (hs:s.heap.IsSliceOf sl vl vu .none) (pl:IsPart vl lo) (pu:IsPart vu hi)
  (hw:¬ (sIx items.size 0 lo=0∧sIx items.size items.size hi=items.size))
  (h:Q (.ref s.heap.objs.size) { s with heap:=s.heap.push { cls:=.type "tuple",data:=.seq ((items.toList.drop (sIx items.size 0 lo)).take (sIx items.size items.size hi - sIx items.size 0 lo)).toArray } })
  (hsz:items.size≤sizeLine):wpAny (model prog w) A (getItem (.ref t) (.ref sl)) Q E s:=by
 have htake:sizeOk (.seq ((items.toList.drop (sIx items.size 0 lo)).take (sIx items.size items.size hi - sIx items.size 0 lo)).toArray):=by
  show ((items.toList.drop (sIx items.size 0 lo)).take (sIx items.size items.size hi - sIx items.size 0 lo)).toArray.size≤sizeLine
  rw [List.size_toArray,List.length_take,List.length_drop,Array.length_toList]
  omega
 have hj:sIx items.size items.size hi≤items.size:=sIx_le _ _ (Nat.le_refl _) hi
 obtain ⟨os,hos,hcs,hds⟩:=id hs
 have hTs:s.TypeIs (.ref sl) "slice":=⟨os,hos,hcs⟩
 unfold getItem
 try with_reducible refine wpAny_holding ?_
 first | refine wpAny_bind (wpAny_pure ?_) | skip
 refine wpAny_bind (wpAny_sequenceKey ht.typeIs (by decide) ?_)
 refine wpAny_bind (wpAny_callSpecial?_slot (name:=Str.ofString "__getitem__") ht.typeIs PyProof.Rows.slot_tuple_getitem
  (wpAny_call_entry PyProof.Rows.slot_tuple_getitem ht.typeIs entry_tuple_getitem ?_ (args_tuple_getitem _ _)))
 show wpAny _ _ (Builtin.Tuple.tupleItemsOf (.ref t) >>= _) _ _ s
 refine wpAny_bind (tupleItemsOf_ ht ?_)
 refine wpAny_bind (wpAny_typeOf hTs ?_)
 rw [if_pos (by decide)]
 refine wpAny_bind (sliceApplied_gen hs pl pu ?_)
 have hno:¬ ((((sIx items.size 0 lo:Nat):Int) == 0 && (1:Int) == 1 && (sIx items.size items.size hi - sIx items.size 0 lo) == items.size)=true):=by
  intro q
  rw [Bool.and_eq_true,Bool.and_eq_true] at q
  have q1:((sIx items.size 0 lo:Nat):Int)=0:=eq_of_beq q.1.1
  have q2:sIx items.size items.size hi - sIx items.size 0 lo=items.size:=eq_of_beq q.2
  exact hw ⟨by omega,by omega⟩
 show wpAny _ _ (if (((sIx items.size 0 lo:Nat):Int) == 0 && (1:Int) == 1 && (sIx items.size items.size hi - sIx items.size 0 lo) == items.size)=true then _ else _) _ _ s
 rw [if_neg hno,pick_gen]
 first
  | exact wpAny_bind (m:=Builtin.Tuple.tupleExact _) (wpAny_newObj_type (wpAny_pure ⟨_,rfl,wpAny_pure h⟩) htake)
  | exact wpAny_bind (m:=Builtin.Tuple.tupleExact _) (wpAny_newObj_type (wpAny_bind (wpAny_pure (wpAny_pure ⟨_,rfl,wpAny_pure h⟩))) htake)
  | exact wpAny_bind (wpAny_bind (m:=Builtin.Tuple.tupleExact _) (wpAny_newObj_type (wpAny_pure (wpAny_pure ⟨_,rfl,wpAny_pure h⟩)) htake))
  | exact wpAny_bind (wpAny_bind (m:=Builtin.Tuple.tupleExact _) (wpAny_newObj_type (wpAny_pure ⟨_,rfl,wpAny_pure h⟩) htake))
end
end HT
namespace L2
open PySem PySem.Spec PyProof.Rows
abbrev TO:=St→Hp→(Option Int→Hp→Prop)→Prop
def PO (X:Cx) (e:Option Expr) (t:TO):Prop :=
 ∀ (pins:List (Addr×Obj)) (s:Shared) (σ:St) (H:Hp) (Q:Option Int→Hp→Prop),Inv X pins σ H s→t σ H Q →
  wpAny (model X.prog X.w) X.A (evalPart e X.env) (fun u s'=>∃ o H',Inv X pins σ H' s'∧IsPart u o∧Q o H') X.xe s
def tNoPart:TO:=fun _ H Q=>Q none H
def tPart (t:TE):TO:=fun σ H Q=>t σ H fun x H1=>∃ i,x=.int i∧Q (some i) H1
section
variable {X:Cx} {e:Expr} {te:TE} {lo hi:Option Expr} {tl th:TO} {pos p2:Pos}
theorem po_none:PO X none tNoPart:=by
 intro pins s σ H Q I h
 rw [evalPart_none]
 exact wpAny_pure ⟨none,H,I,.none,h⟩
theorem po_some (h:PE X e te):PO X (some e) (tPart te):=by
 intro pins s σ H Q I hw
 rw [evalPart_some]
 refine thn (h pins s σ H _ I hw) fun u s1 ⟨x,H1,I1,r1,q1⟩=>?_
 obtain ⟨i,rfl,q⟩:=q1
 obtain ⟨t,rfl⟩:=r1
 exact ⟨some i,H1,I1,.int i t,q⟩
def SlR (X:Cx) (r:V→Option Int→Option Int→Hp→VK→Prop):Prop :=
 ∀ (pins:List (Addr×Obj)) (s:Shared) (σ:St) (H:Hp) (x:V) (v vl vu:Value) (lo hi:Option Int) (sl:Addr) (Q:VK),Inv X pins σ H s→RelV x v→s.heap.IsSliceOf sl vl vu .none→IsPart vl lo→IsPart vu hi→r x lo hi H Q →
  ∃ T id,typeLookup (.type T) "__getitem__"=pure (some (.builtin id))∧s.TypeIs v T∧wpAny (model X.prog X.w) X.A (getItem v (.ref sl)) (EP X pins σ Q) X.xe s
theorem SlR.or {r r':V→Option Int→Option Int→Hp→VK→Prop} (h:SlR X r) (h':SlR X r'):SlR X (fun x lo hi H Q=>r x lo hi H Q∨r' x lo hi H Q):=by
 intro pins s σ H x v vl vu lo hi sl Q I rx hs pl pu q
 rcases q with q | q
 ·
  exact h pins s σ H x v vl vu lo hi sl Q I rx hs pl pu q
 ·
  exact h' pins s σ H x v vl vu lo hi sl Q I rx hs pl pu q
def tSl (r:V→Option Int→Option Int→Hp→VK→Prop) (te:TE) (tl th:TO):TE:=fun σ H Q=>te σ H fun x H1=>tl σ H1 fun l H2=>th σ H2 fun u H3=>r x l u H3 Q
theorem pe_slice {r:V→Option Int→Option Int→Hp→VK→Prop} (hr:SlR X r) (he:PE X e te) (hl:PO X lo tl) (hu:PO X hi th):PE X (.Subscript e (.Slice lo hi none p2) pos) (tSl r te tl th):=by
 intro pins s σ H Q I h
 refine Subscript_ (thn (he pins s σ H _ I h) fun v s1 ⟨x,H1,I1,r1,q1⟩=>?_)
 refine wpAny_Slice (thn (hl pins s1 σ H1 _ I1 q1) fun vl s2 ⟨l,H2,I2,pl,q2⟩=>thn (hu pins s2 σ H2 _ I2 q2) fun vu s3 ⟨u,H3,I3,pu,q3⟩=>?_)
 rw [evalPart_none]
 refine wpAny_pure ?_
 have I4:Inv X pins σ H3 { s3 with heap:=s3.heap.push { cls:=.type "slice",data:=.fields #[vl,vu,.none] } }:=I3.kept (t':=s3.toks) fun b ob q=>Heap.get?_push_of_some _ q
 obtain ⟨T,id,hT,ht,hg⟩:=hr pins { s3 with heap:=s3.heap.push { cls:=.type "slice",data:=.fields #[vl,vu,.none] } } σ H3 x v vl vu l u s3.heap.objs.size Q I4 r1 (Heap.IsSliceOf.new ..) pl pu q3
 show wpAny (model X.prog X.w) X.A (subscriptTail e (.Slice lo hi none p2) v (.ref s3.heap.objs.size)) (EP X pins σ Q) X.xe { s3 with heap:=s3.heap.push { cls:=.type "slice",data:=.fields #[vl,vu,.none] } }
 exact tail_any (ops:=[.ref s3.heap.objs.size,v]) ht hT hg (by with_unfolding_all rfl)
def cutV (xs:List V) (lo hi:Option Int):List V:=(xs.drop (HT.sIx xs.length 0 lo)).take (HT.sIx xs.length xs.length hi - HT.sIx xs.length 0 lo)
theorem cutV_length (xs:List V) (lo hi:Option Int):(cutV xs lo hi).length≤xs.length:=by
 unfold cutV
 rw [List.length_take,List.length_drop]
 omega
def rSlT (K:PySem.W.Frag):V→Option Int→Option Int→Hp→VK→Prop:=fun x lo hi H Q=>∃ a xs,x=.ref a∧SqT K H a xs ∧
 ¬ (HT.sIx xs.length 0 lo=0∧HT.sIx xs.length xs.length hi=xs.length)∧∀ p,H p=none→Q (.ref p) (upd H p (.tup (cutV xs lo hi)))
theorem sl_tup:SlR X (rSlT X.K):=by
 intro pins s σ H x v vl vu lo hi sl Q I rx hs pl pu h
 obtain ⟨a,xs,rfl,hx,hw,q⟩:=h
 cases rx
 obtain ⟨its,r,ht,hz⟩:=I.tuple hx
 have hlen:its.toArray.size=xs.length:=by rw [List.size_toArray]; exact r.length.symm
 refine ⟨"tuple",_,PyProof.Rows.slot_tuple_getitem.lookup,ht.typeIs,?_⟩
 refine HT.getItem_tuple_cut ht hs pl pu (by rw [hlen]; exact hw) ?_ (by rw [hlen]; exact hz)
 rw [hlen]
 refine ⟨.ref s.heap.objs.size,_,I.laid (t':=s.toks) (o:=.tup (cutV xs lo hi)) (fun b ob q=>Heap.get?_push_of_some _ q) (Nat.le_refl _) ?_,rfl,q _ (I.hok.fresh (Nat.le_refl _))⟩
 exact ⟨Nat.le_trans (cutV_length xs lo hi) hz,_,(r.drop (HT.sIx xs.length 0 lo)).take (HT.sIx xs.length xs.length hi - HT.sIx xs.length 0 lo),IsTup.new _ _⟩
end
end L2
namespace L2
open PySem PySem.Spec PyProof.Rows
def ixN (n:Nat) (i:Int):Option Nat:=if 0≤i then (if i < n then some i.toNat else none) else if -(n:Int)≤i then some (i+n).toNat else none
def atI {α:Type} (xs:List α) (i:Int):Option α:=(ixN xs.length i).bind fun j=>xs[j]?
theorem ixN_seq {n:Nat} {i:Int} {j:Nat} (h:ixN n i=some j):seqIndex? i n=some j∧j < n∧-(n:Int)≤i∧i < n:=by
 unfold ixN at h
 by_cases h0:0≤i
 ·
  rw [if_pos h0] at h
  by_cases h1:i < n
  ·
   rw [if_pos h1] at h
   have e:i.toNat=j:=Option.some.inj h
   exact ⟨by rw [seqIndex_of h0 h1,e],by omega,by omega,h1⟩
  ·
   rw [if_neg h1] at h; cases h
 ·
  rw [if_neg h0] at h
  by_cases h1 : -(n:Int)≤i
  ·
   rw [if_pos h1] at h
   have e:(i+n).toNat=j:=Option.some.inj h
   exact ⟨by rw [seqIndex_neg (by omega) h1,e],by omega,h1,by omega⟩
  ·
   rw [if_neg h1] at h; cases h
theorem atI_get {α:Type} {xs:List α} {i:Int} {v:α} (h:atI xs i=some v):∃ j,seqIndex? i xs.length=some j∧xs[j]?=some v∧j < xs.length∧-(xs.length:Int)≤i∧i < xs.length:=by
 unfold atI at h
 cases e:ixN xs.length i with
 | none=>rw [e] at h; cases h
 | some j =>
  rw [e] at h
  obtain ⟨h1,h2,h3,h4⟩:=ixN_seq e
  exact ⟨j,h1,h,h2,h3,h4⟩
theorem atI_nat {α:Type} {xs:List α} {j:Nat} {v:α} (h:xs[j]?=some v):atI xs (j:Int)=some v:=by
 have hj:j < xs.length:=(List.getElem?_eq_some_iff.mp h).1
 have e:ixN xs.length (j:Int)=some j:=by
  unfold ixN
  rw [if_pos (by omega),if_pos (by omega)]; simp
 unfold atI; rw [e]; exact h
def PlainIx (b:Expr):Prop:=∀ o i,subscripted b false o i=operate [o,i] (getItem o i)
def IxR (X:Cx) (r:R2):Prop :=
 ∀ (value slice:Expr) (pins:List (Addr×Obj)) (s:Shared) (σ:St) (H:Hp) (x y:V) (v u:Value) (Q:VK),Inv X pins σ H s→RelV x v→RelV y u→r x y H Q →
  subscripted slice false v u=operate [v,u] (getItem v u)→wpAny (model X.prog X.w) X.A (subscriptTail value slice v u) (EP X pins σ Q) X.xe s
def MtR (X:Cx) (id:String) (r:V→List V→Hp→VK→Prop):Prop :=
 ∀ (pins:List (Addr×Obj)) (s:Shared) (σ:St) (H:Hp) (x:V) (xs:List V) (v:Value) (us:List Value) (Q:VK),Inv X pins σ H s→RelV x v→Vals xs us→r x xs H Q →
  wpAny (model X.prog X.w) X.A (call (.builtin id) (v::us)) (EP X pins σ Q) X.xe s
section
variable {X:Cx} {a b:Expr} {ta tb:TE} {pos:Pos}
theorem pe_ix {r:R2} (hr:IxR X r) (ha:PE X a ta) (hb:PE X b tb) (hs:PlainIx b):PE X (.Subscript a b pos) (tOp r ta tb):=by
 intro pins s σ H Q I h
 exact Subscript_ (binT ha hb I h fun v u s2 x y H2 I2 rx ry q=>hr a b pins s2 σ H2 x y v u Q I2 rx ry q (hs _ _))
def rIxL (K:PySem.W.Frag):R2:=fun x y H Q=>∃ p xs i v,x=.ref p∧y=.int i∧SqL K H p xs∧atI xs i=some v∧Q v H
def rIxT (K:PySem.W.Frag):R2:=fun x y H Q=>∃ p xs i v,x=.ref p∧y=.int i∧SqT K H p xs∧atI xs i=some v∧Q v H
def rIxS:R2:=fun x y H Q=>∃ z i c,x=.str z∧y=.int i∧z.length≤sizeLine∧atI z.cps.toList i=some c∧Q (.str ⟨#[c]⟩) H
theorem ix_list:IxR X (rIxL X.K):=by
 intro value slice pins s σ H x y v u Q I rx ry h hs
 obtain ⟨p,xs,i,z,rfl,rfl,hq,he,q⟩:=h
 cases rx
 obtain ⟨t,rfl⟩:=ry
 obtain ⟨its,r,pl,hz⟩:=I.list hq
 obtain ⟨j,h1,h2,h3,h4,h5⟩:=atI_get he
 obtain ⟨w,ew,rw'⟩:=r.get h2
 have hl:=r.length
 have hn:=line63
 have fin:EP X pins σ Q w s:=⟨z,H,I,rw',q⟩
 by_cases h0:0≤i
 ·
  have hj:i.toNat=j:=by
   rw [seqIndex_of h0 h5] at h1
   exact Option.some.inj h1
  exact item_listR pl.isList h0 (by omega) (by rw [hj]; simpa using ew) fin hs
 ·
  have hj:(i+(its.toArray.size:Int)).toNat=j:=by
   rw [seqIndex_neg (by omega) h4] at h1
   rw [List.size_toArray,← hl]
   exact Option.some.inj h1
  exact subscriptTail_builtinR (x:=w) pl.isList.typeIs slot_list_getitem.lookup
   (wpAny_getItem_list_neg (Q:=fun r s'=>r=w∧EP X pins σ Q r s') pl.isList (by omega) (by rw [List.size_toArray] <;> omega) (by omega) (by rw [hj]; simpa using ew) ⟨rfl,fin⟩) hs
theorem ix_tup:IxR X (rIxT X.K):=by
 intro value slice pins s σ H x y v u Q I rx ry h hs
 obtain ⟨p,xs,i,z,rfl,rfl,hq,he,q⟩:=h
 cases rx
 obtain ⟨t,rfl⟩:=ry
 obtain ⟨its,r,pl,hz⟩:=I.tuple hq
 obtain ⟨j,h1,h2,h3,h4,h5⟩:=atI_get he
 obtain ⟨w,ew,rw'⟩:=r.get h2
 have hl:=r.length
 have hn:=line63
 have fin:EP X pins σ Q w s:=⟨z,H,I,rw',q⟩
 exact subscriptTail_builtinR (x:=w) pl.typeIs slot_tuple_getitem.lookup
  (getItem_tuple (j:=j) (Q:=fun r s'=>r=w∧EP X pins σ Q r s') pl (by omega) (by omega) (by rw [List.size_toArray,← hl]; exact h1) (by simpa using ew) ⟨rfl,fin⟩) hs
theorem ix_str:IxR X rIxS:=by
 intro value slice pins s σ H x y v u Q I rx ry h hs
 obtain ⟨z,i,c,rfl,rfl,hz,he,q⟩:=h
 obtain ⟨t,rfl⟩:=rx
 obtain ⟨t',rfl⟩:=ry
 obtain ⟨j,h1,h2,h3,h4,h5⟩:=atI_get he
 have hl:z.cps.toList.length=z.length:=by simp [Str.length]
 rw [hl] at h1 h4 h5
 have hn:=line63
 exact tail_any (typeIs_str s z t) slot_str_getitem.lookup (getItem_str (c:=c) (by
  have e1:decide (i < -(2 ^ 63:Int))=false:=decide_eq_false (by omega)
  have e2:decide (i≥2 ^ 63)=false:=decide_eq_false (by omega)
  rw [e1,e2,Bool.or_false]) (by rw [h1]; simpa using h2) ⟨.str ⟨#[c]⟩,H,I.tok _,⟨_,rfl⟩,q⟩) hs
theorem mapSeq_set (its:List Value) (n j:Nat) (u:Value):Obj.mapSeq (·.setIfInBounds j u) { cls:=.type "list",data:=.seq its.toArray n }={ cls:=.type "list",data:=.seq (its.set j u).toArray n }:=by
 simp [Obj.mapSeq]
theorem Inv.lst {pins:List (Addr×Obj)} {σ:St} {H:Hp} {s:Shared} {p:Addr} {xs:List V} (I:Inv X pins σ H s) (h:H p=some (.lst xs)) :
  ∃ (its:List Value) (n:Nat),Vals xs its∧s.heap.get? p=some { cls:=.type "list",data:=.seq its.toArray n }∧xs.length≤sizeLine:=by
 obtain ⟨z,its,n,r,e⟩:=I.hok p _ h
 exact ⟨its,n,r,e,z⟩
theorem Inv.lstUpd {pins:List (Addr×Obj)} {σ:St} {H:Hp} {s:Shared} {p:Addr} {xs ys:List V} {its its':List Value} {n n':Nat} {f:Obj→Obj} (I:Inv X pins σ H s) (h:H p=some (.lst xs))
  (ho:s.heap.get? p=some { cls:=.type "list",data:=.seq its.toArray n }) (hf:f { cls:=.type "list",data:=.seq its.toArray n }={ cls:=.type "list",data:=.seq its'.toArray n' }) (r:Vals ys its') (hz:ys.length≤sizeLine) (t:Nat) :
  Inv X pins σ (upd H p (.lst ys)) { s with heap:=s.heap.update p f,toks:=t }:=by
 have e:(s.heap.update p f).get? p=some { cls:=.type "list",data:=.seq its'.toArray n' }:=by
  rw [Heap.get?_update_self f ho (by rw [hf] <;> rfl),hf]
 refine I.write (x:=p) (e:=p) (by rw [h]; trivial) (.inl rfl) (fun b u hb q=>(Heap.get?_update_other _ _ (Ne.symm hb)).trans q) ⟨_,e⟩ ?_
 exact ⟨hz,its',n',r,e⟩
def rSetL:V→V→V→Hp→(Hp→Prop)→Prop:=fun o i v H Q=>∃ p xs k j,o=.ref p∧i=.int k∧H p=some (.lst xs)∧ixN xs.length k=some j∧Q (upd H p (.lst (xs.set j v)))
theorem set_list:PSet X rSetL:=by
 intro pins s σ H o i v ov iv u Q I ro ri rv h
 obtain ⟨p,xs,k,j,rfl,rfl,hp,hj,q⟩:=h
 cases ro
 obtain ⟨t,rfl⟩:=ri
 obtain ⟨its,n,r,ho,hz⟩:=I.lst hp
 obtain ⟨h1,h2,h3,h4⟩:=ixN_seq hj
 have hl:=r.length
 have hn:=line63
 have I':Inv X pins σ (upd H p (.lst (xs.set j v))) { s with heap:=s.heap.update p (Obj.mapSeq (·.setIfInBounds j u)) } :=
  I.lstUpd hp ho (mapSeq_set its n j u) (r.set rv j) (by rw [List.length_set]; exact hz) s.toks
 by_cases h0:0≤k
 ·
  have hk:k.toNat=j:=by
   rw [seqIndex_of h0 h4] at h1
   exact Option.some.inj h1
  exact PySem.W.ki_setAt ho h0 (by omega) (by rw [List.size_toArray,← hl]; exact h4) (by rw [hk]; exact ⟨_,I',q⟩)
 ·
  have hk:(k+(its.toArray.size:Int)).toNat=j:=by
   rw [seqIndex_neg (by omega) h3] at h1
   rw [List.size_toArray,← hl]
   exact Option.some.inj h1
  exact PySem.W.ki_setBack ho (by omega) (by rw [List.size_toArray,← hl]; exact h3) (by omega) (by rw [hk]; exact ⟨_,I',q⟩)
theorem slice_bounds (lo hi:Option Int) (n:Nat):(sliceBounds lo hi none n).1=((HT.sIx n 0 lo:Nat):Int)∧(sliceBounds lo hi none n).2.1=((HT.sIx n n hi:Nat):Int)∧(sliceBounds lo hi none n).2.2=1:=by
 refine ⟨?_,?_,rfl⟩
 ·
  cases lo with
  | none=>simp [sliceBounds,HT.sIx]
  | some i =>
   simp only [sliceBounds,HT.sIx,Option.getD_none,show (1:Int) > 0 by decide,if_true]
   by_cases h:i < 0
   ·
    simp only [h,if_true] <;> omega
   ·
    simp only [h,if_false] <;> omega
 ·
  cases hi with
  | none=>simp [sliceBounds,HT.sIx]
  | some i =>
   simp only [sliceBounds,HT.sIx,Option.getD_none,show (1:Int) > 0 by decide,if_true]
   by_cases h:i < 0
   ·
    simp only [h,if_true] <;> omega
   ·
    simp only [h,if_false] <;> omega
theorem slicePick_cut (its:List Value) (lo hi:Option Int):slicePick its.toArray lo hi none=((its.drop (HT.sIx its.length 0 lo)).take (HT.sIx its.length its.length hi - HT.sIx its.length 0 lo)).toArray:=by
 obtain ⟨h1,h2,h3⟩:=slice_bounds lo hi its.toArray.size
 unfold slicePick
 rw [h1,h2,h3]
 simp only [sliceRange_one,pick_run,List.size_toArray] <;> rfl
def rSlL (K:PySem.W.Frag):V→Option Int→Option Int→Hp→VK→Prop:=fun x lo hi H Q=>∃ a xs,x=.ref a∧SqL K H a xs∧∀ p,H p=none→Q (.ref p) (upd H p (.lst (cutV xs lo hi)))
theorem sl_list:SlR X (rSlL X.K):=by
 intro pins s σ H x v vl vu lo hi sl Q I rx hs pl pu h
 obtain ⟨a,xs,rfl,hx,q⟩:=h
 cases rx
 obtain ⟨its,r,ht,hz⟩:=I.list hx
 have hlen:=r.length
 refine ⟨"list",_,slot_list_getitem.lookup,ht.isList.typeIs,?_⟩
 refine wpAny_getItem_list_slice ht.isList hs pl pu .none (by simp) ?_ (by rw [List.size_toArray] <;> omega)
 rw [slicePick_cut,← hlen]
 refine ⟨.ref s.heap.objs.size,_,I.laid (t':=s.toks) (o:=.lst (cutV xs lo hi)) (fun b ob q=>Heap.get?_push_of_some _ q) (Nat.le_refl _) ?_,rfl,q _ (I.hok.fresh (Nat.le_refl _))⟩
 exact ⟨Nat.le_trans (cutV_length xs lo hi) hz,_,0,(r.drop (HT.sIx xs.length 0 lo)).take (HT.sIx xs.length xs.length hi - HT.sIx xs.length 0 lo),Heap.get?_push_size _ rfl⟩
theorem call_len_seq:CallR X (.builtin "len") (fun xs H Q=>∃ p ys,xs=[.ref p]∧(SqL X.K H p ys∨SqT X.K H p ys)∧Q (.int ys.length) H):=by
 intro pins s σ H xs us Q I r h
 obtain ⟨p,ys,rfl,hq,q⟩:=h
 obtain ⟨u,rfl,rx⟩:=vals1 r
 cases rx
 have hn:=line63
 rcases hq with hq | hq
 ·
  obtain ⟨its,r',pl,hz⟩:=I.list hq
  have hlen:=r'.length
  exact Calls.call_len_list pl.isList (by simp only [List.size_toArray] <;> omega) ⟨.int ys.length,H,I.tok _,⟨s.toks+1,by rw [List.size_toArray,hlen]⟩,q⟩
 ·
  obtain ⟨its,r',pl,hz⟩:=I.tuple hq
  have hlen:=r'.length
  exact len_tuple pl (by simp only [List.size_toArray] <;> omega) ⟨.int ys.length,H,I.tok _,⟨s.toks+1,by rw [List.size_toArray,hlen]⟩,q⟩
theorem call_len_str:CallR X (.builtin "len") (fun xs H Q=>∃ z,xs=[.str z]∧z.length≤sizeLine∧Q (.int z.length) H):=by
 intro pins s σ H xs us Q I r h
 obtain ⟨z,rfl,hz,q⟩:=h
 obtain ⟨u,rfl,t,rfl⟩:=vals1 r
 have hn:=line63
 exact len_str (by omega) ⟨.int z.length,H,I.tok _,⟨_,rfl⟩,q⟩
theorem CallR.or {f:Value} {r r':List V→Hp→VK→Prop} (h:CallR X f r) (h':CallR X f r'):CallR X f (fun xs H Q=>r xs H Q∨r' xs H Q):=by
 intro pins s σ H xs us Q I rs q
 rcases q with q | q
 ·
  exact h pins s σ H xs us Q I rs q
 ·
  exact h' pins s σ H xs us Q I rs q
theorem call_list_of:CallR X (.type "list") (fun xs H Q=>∃ p ys,xs=[.ref p]∧(SqL X.K H p ys∨SqT X.K H p ys)∧∀ l,H l=none→Q (.ref l) (upd H l (.lst ys))):=by
 intro pins s σ H xs us Q I r h
 obtain ⟨p,ys,rfl,hq,q⟩:=h
 obtain ⟨u,rfl,rx⟩:=vals1 r
 cases rx
 have fin:∀ (its:List Value),Vals ys its→ys.length≤sizeLine→∀ (h':Heap) (c':Nat),(∀ b o',s.heap.get? b=some o'→h'.get? b=some o') →
   h'.get? s.heap.objs.size=some { cls:=.type "list",dict:=none,data:=.seq its.toArray c',slots:=#[] }→EP X pins σ Q (.ref s.heap.objs.size) { s with heap:=h' }:=fun its r' hz h' c' kp e =>
  ⟨.ref s.heap.objs.size,_,I.laid (t':=s.toks) kp (Nat.le_refl _) (show ObjOk X.prog X.w _ h' _ (.lst ys) from ⟨hz,its,c',r',e⟩),rfl,q _ (I.hok.fresh (Nat.le_refl _))⟩
 rcases hq with hq | hq
 ·
  obtain ⟨its,r',pl,hz⟩:=I.list hq
  have hlen:=r'.length
  obtain ⟨o,ho,hc,n,hd⟩:=pl.isList
  exact call_list_seq p (.inl rfl) ho hc hd (fun h' c' kp e=>fin its r' hz h' c' kp e) (by simp only [List.size_toArray] <;> omega)
 ·
  obtain ⟨its,r',pl,hz⟩:=I.tuple hq
  have hlen:=r'.length
  obtain ⟨o,ho,hc,n,hd⟩:=pl
  exact call_list_seq p (.inr rfl) ho hc hd (fun h' c' kp e=>fin its r' hz h' c' kp e) (by simp only [List.size_toArray] <;> omega)
def tyV (K:PySem.W.Frag) (T:String) (x:V) (H:Hp):Prop:=match x with
 | .str _=>T="str"
 | .int _=>T="int"
 | .ref p=>(T="list"∧∃ xs,SqL K H p xs)∨(T="tuple"∧∃ o,K.lookup p=some o∧o.cls=.type "tuple"∧o.dict=none) ∨
   (T="dict"∧((∃ kvs,H p=some (.dK kvs))∨∃ kvs,H p=some (.dT kvs)))∨(T="set"∧∃ S n,H p=some (.set S n))
 | _=>False
theorem tyV_is {pins:List (Addr×Obj)} {σ:St} {H:Hp} {s:Shared} {T:String} {x:V} {v:Value} (I:Inv X pins σ H s) (r:RelV x v) (ty:tyV X.K T x H) :
  s.TypeIs v T∧∀ a,v=.ref a→∃ ob,s.heap.get? a=some ob∧ob.dict=none:=by
 cases x with
 | str z =>
  obtain ⟨t,rfl⟩:=r
  cases (show T="str" from ty)
  exact ⟨typeIs_str s z t,fun _ e=>nomatch e⟩
 | int i =>
  obtain ⟨t,rfl⟩:=r
  cases (show T="int" from ty)
  exact ⟨typeIs_int s i t,fun _ e=>nomatch e⟩
 | ref p =>
  cases r
  rcases ty with ⟨rfl,xs,hq⟩ | ⟨rfl,o,hk,hc,hd⟩ | ⟨rfl,hk⟩ | ⟨rfl,S,n,hk⟩
  ·
   obtain ⟨its,_,pl,_⟩:=I.list hq
   refine ⟨pl.isList.typeIs,fun a e=>?_⟩
   cases e
   obtain ⟨o,n,e,c,hd,_⟩:=pl
   exact ⟨o,e,hd⟩
  ·
   refine ⟨⟨o,I.kIn p o hk,hc⟩,fun a e=>?_⟩
   cases e
   exact ⟨o,I.kIn _ o hk,hd⟩
  ·
   have z:∃ o,s.heap.get? p=some o∧o.ExactDict:=by
    rcases hk with ⟨kvs,hk⟩ | ⟨kvs,hk⟩
    ·
     obtain ⟨_,_,_,_,o,_,_,e,ex,_⟩:=I.hok p _ hk
     exact ⟨o,e,ex⟩
    ·
     obtain ⟨_,_,_,_,o,_,_,e,ex,_⟩:=I.hok p _ hk
     exact ⟨o,e,ex⟩
   obtain ⟨o,e,ex⟩:=z
   refine ⟨⟨o,e,ex.1⟩,fun a e2=>?_⟩
   cases e2
   exact ⟨o,e,ex.2.1⟩
  ·
   obtain ⟨o,_,_,_,e,ex,_⟩:=I.hok p _ hk
   refine ⟨⟨o,e,ex.1⟩,fun a e2=>?_⟩
   cases e2
   exact ⟨o,e,ex.2.1⟩
 | _=>exact False.elim ty
def tBM (K:PySem.W.Frag) (T:String) (r:V→List V→Hp→VK→Prop) (to:TE) (t:TA):TE:=fun σ H Q=>to σ H fun x H1=>tyV K T x H1∧t σ H1 fun xs H2=>r x xs H2 Q
variable {o e:Expr} {es:List Expr} {to:TE} {t:TA} {name:Str} {apos cpos:Pos} {T id:String} {r:V→List V→Hp→VK→Prop}
theorem pe_bm (pa:PlainAttrs T) (slot:Slot T name id) (hty:typeOf (.builtin id)=pure (.type "method_descriptor")) (hm:MtR X id r) (ho:PE X o to) (ha:PA X (e::es) t)
  (hbase:attributeBase o name X.env (eval o X.env)=eval o X.env:=by rfl)
  (hfew:((backTo cpos (starEach (e::es) X.env)).all (fun x=>!x.1) && (backToKw cpos (keywordEach [] X.env)).all (fun x=>x.1.isSome)
   && decide ((e::es).length+([]:List Keyword).length+(if ([]:List Keyword).isEmpty then 0 else 1) < 30))=true:=by rfl)
  (hline:(apos.endLine == cpos.line)=true:=by rfl) (hs:starEach (e::es) X.env=(false,eval e X.env)::starEach es X.env:=by rfl) (hplain:(backTo cpos (starEach es X.env)).any (·.1)=false:=by rfl) :
  PE X (.Call (.Attribute o name apos) (e::es) [] cpos) (tBM X.K T r to t):=by
 intro pins s σ H Q I h
 refine wpAny_Call_method_late hbase hfew hline rfl (thn (ho pins s σ H _ I h) fun v s1 ⟨x,H1,I1,r1,ty,q1⟩=>?_)
 obtain ⟨h1,h2⟩:=tyV_is I1 r1 ty
 refine ⟨T,id,pa,slot,hty,h1,h2,?_⟩
 have hA:=ha cpos pins s1 σ H1 _ I1 q1
 rw [hs] at hA ⊢
 refine Calls.callWith_builtin (by show (false || (backTo cpos (starEach es X.env)).any (·.1))=false; rw [hplain] <;> rfl) (Calls.evalArgs_plain ?_)
 exact thn hA fun us s2 ⟨vs,H2,I2,r2,q2⟩=>hm pins s2 σ H2 x vs v us Q I2 r1 r2 q2
/- xs.append(e),list.index on a module's tuple .. are MtR facts of 06m -/
end
end L2
namespace L2
open PySem PySem.Spec PyProof.Rows
def MtM (X:Cx) (id:String) (r:V→List V→Hp→VK→Prop):Prop :=
 ∀ (pins:List (Addr×Obj)) (s:Shared) (σ:St) (H:Hp) (x:V) (xs:List V) (v:Value) (us:List Value) (Q:VK),Inv X pins σ H s→RelV x v→Vals xs us→r x xs H Q →
  wpAny (model X.prog X.w) X.A (call (.builtin id) (v::us)) (EP X pins σ Q) X.xe s
theorem Vals.one:∀ {x:V} {us:List Value},Vals [x] us→∃ u,us=[u]∧RelV x u
 | _,_,.cons r .nil=>⟨_,rfl,r⟩
theorem Vals.reverse {xs:List V} {us:List Value} (h:Vals xs us):Vals xs.reverse us.reverse:=by
 induction h with
 | nil=>exact .nil
 | cons r t ih=>rw [List.reverse_cons,List.reverse_cons]; exact Vals.append ih (.cons r .nil)
section
variable {X:Cx} {pins:List (Addr×Obj)} {σ:St} {H:Hp} {s:Shared} {l b:Addr} {xs ys zs:List V}
theorem Inv.lset {its its':List Value} {n:Nat} {f:Array Value→Array Value} {t':Nat} (I:Inv X pins σ H s) (hH:H l=some (.lst xs))
  (e:s.heap.get? l=some { cls:=.type "list",data:=.seq its.toArray n }) (hf:f its.toArray=its'.toArray) (hv:Vals ys its') (hz:ys.length≤sizeLine) :
  Inv X pins σ (upd H l (.lst ys)) { s with heap:=s.heap.update l (Obj.mapSeq f),toks:=t' }:=by
 have q:=PySem.IsL.update e f
 rw [hf] at q
 refine I.write (x:=l) (e:=l) (by rw [hH]; exact trivial) (.inl rfl) (fun b' u hb hu=>(Heap.get?_update_other s.heap (Obj.mapSeq f) (Ne.symm hb)).trans hu) ⟨_,q⟩ ?_
 exact ⟨hz,its',_,hv,q⟩
theorem Inv.lnew {its:List Value} {t':Nat} (I:Inv X pins σ H s) (hv:Vals ys its) (hz:ys.length≤sizeLine) :
  Inv X pins σ (upd H s.heap.objs.size (.lst ys)) { s with heap:=s.heap.push { cls:=.type "list",data:=.seq its.toArray },toks:=t' } :=
 I.laid (fun _ _ q=>Heap.get?_push_of_some _ q) (Nat.le_refl _) ⟨hz,its,0,hv,Heap.get?_push_size _ rfl⟩
theorem Inv.fresh (I:Inv X pins σ H s):H s.heap.objs.size=none:=I.hok.fresh (Nat.le_refl _)
theorem Inv.lstM (I:Inv X pins σ H s) (hH:H l=some (.lst xs)):xs.length≤sizeLine∧∃ (its:List Value) (n:Nat),Vals xs its∧xs.length=its.length∧s.heap.get? l=some { cls:=.type "list",data:=.seq its.toArray n }:=by
 obtain ⟨z,its,n,r,e⟩:=I.hok l _ hH
 exact ⟨z,its,n,r,r.length,e⟩
end
section
variable {X:Cx}
def rAppend:V→List V→Hp→VK→Prop:=fun x vs H Q=>∃ l xs y,x=.ref l∧vs=[y]∧H l=some (.lst xs)∧xs.length < sizeLine∧Q .non (upd H l (.lst (xs++[y])))
theorem mt_append:MtM X "list.append" rAppend:=by
 intro pins s σ H x vs v us Q I rx rv h
 obtain ⟨l,xs,y,rfl,rfl,hH,hz,q⟩:=h
 cases rx
 obtain ⟨u,rfl,ru⟩:=rv.one
 obtain ⟨z,its,n,r,hl,e⟩:=I.lstM hH
 refine call_meets F.slot_list_append ⟨_,e,rfl⟩ F.entry_list_append (F.args_list_append_2 _ _) (PySem.list_append l its.toArray n u (by rw [List.size_toArray]; omega)) ⟨e,?_⟩
 refine ⟨.non,_,I.lset (its':=its++[u]) hH e (by simp) (r.append (.cons ru .nil)) ?_,rfl,q⟩
 rw [List.length_append,List.length_singleton]
 omega
end
section
variable {prog:Program} {w:World} {A:Around} {E:Value→Shared→Prop} {s:Shared}
end
section
variable {X:Cx}
end
end L2
namespace Att
open PySem PySem.W PySem.Calls PyProof.Rows
theorem ints_of_wellAll {P:Params} {h:Heap}:∀ (ns:List Int) (vs:List Value),WellAll P h vs (ns.map WData.int)→IntsAre vs ns:=by
 intro ns
 induction ns with
 | nil =>
  intro vs w
  rw [List.map_nil] at w
  cases w
  exact .nil
 | cons n ns ih =>
  intro vs w
  rw [List.map_cons] at w
  cases w with
  | cons a b =>
   cases a
   exact .cons _ _ (ih _ b)
theorem script_of {l:OpenLaw} {n:Nat} (hn:l.most=some n) {P:Params} {h:Heap} {args:List WData} {vals:List Value}
  (hpre:l.row.toRowW.claim.pre args=true) (hwl:WellAll P h vals args) :
  ∃ a vs ns,vals=[Value.ref a]∧args=[WData.list (ns.map WData.int)]∧h.get? a=some { cls:=.type "list",data:=.seq vs.toArray }∧IntsAre vs ns∧ns.length≤n:=by
 have hsh:WShape.hasAll [] args [.list .int]=true:=(pre_splitW hpre).1
 have hc:l.pre.holds [] { args:=args }=true:=(pre_splitW hpre).2
 obtain ⟨d,r,rfl,h1,h2⟩:=hasAllW_cons hsh
 obtain rfl:=hasAllW_nil h2
 obtain ⟨xs,rfl,h3⟩:=hasW_list h1
 obtain ⟨ns,rfl⟩:=items_int h3
 have hlen:ns.length≤n:=by
  unfold OpenLaw.pre at hc
  have h4:(WTm.not (.lt (.lit (.int (n:Int))) (.len (.arg 0)))).holds [] { args:=[.list (ns.map .int)] }=true:=by
   have h4:=(holds_andW hc).1
   rw [hn] at h4
   exact h4
  have h5:=condW_of h4 (w_not (w_lt w_lit (w_len_list (w_arg rfl))))
  rw [List.length_map] at h5
  refine Nat.le_of_not_lt fun q=>?_
  have q':(n:Int) < ((ns.length:Nat):Int):=by omega
  first
   | (rw [decide_eq_true q'] at h5; exact absurd h5 (by decide))
   | (simp at h5; omega)
 cases hwl with
 | cons w1 w2 =>
  cases w2
  cases w1 with
  | list ho hall=>exact ⟨_,_,ns,rfl,rfl,ho,ints_of_wellAll ns _ hall,hlen⟩
theorem post_true (l:OpenLaw) (args:List WData):l.row.toRowW.claim.post args (.bool true) args=true :=
 postW_of (r:=l.row.toRowW) (X:=(true == true))
  (show WShape.has [] (.bool true) .bool=true by first | rfl | decide | simp [WShape.has,WShape.arms,WShape.armsAll])
  (show (WTm.eq .res (.lit (.bool true))).value [] { args:=args,res:=some (.bool true),after:=args }=some (.bool (true == true)) from w_eq_bool (w_res rfl) w_lit) rfl
theorem attach_call {l:OpenLaw} {n:Nat} {q:Program} {loose:List Str} {XP:(Str→Option Value)→Heap→Prop} {YP:World→Heap→Prop} {d:DefRec}
  (hn:l.most=some n) (hdf:d.params.defaults=[])
  (call:∀ (w:World) (s₀ s₁:Shared) (mg mb:Str→Option Value) (fa:Addr) (o:Obj) (pm cd doc:Value) (a:Addr) (vs:List Value) (ns:List Int),
   Ground q loose [] XP w s₀ mg mb s₁.heap→YP w s₁.heap →
   s₁.heap.get? fa=some o→o.data=.func (docDef d.name d.params d.body d.scope pm cd doc)→s₁.heap.CodeRec cd d.name→mg d.name=some (.ref fa) →
   s₁.heap.get? a=some { cls:=.type "list",data:=.seq vs.toArray }→IntsAre vs ns→ns.length≤n→s₁.gens=#[] →
   codeAny (model l.prog w) callerA (.call (.ref fa) ⟨[.ref a],[]⟩) (fun r s'=>r=.ok (.ret (.bool true))∧OldK s₁.heap s'.heap∧s'.os=s₁.os∧AllBare s'.gens) s₁) :
  WalkO q loose XP YP l.row.toRowW d [] (fun f vs=>PySem.call f vs):=by
 intro w s₀ s₁ mg mb G Y fa o pm cd doc dV kV ho hd hcd hD hmg hg args vals as hpre hlay hrd hwl hlo
 obtain rfl:dV=.none:=Dflts.none hD hdf
 obtain rfl:kV=.none:=Dflts.noKw hD
 obtain ⟨a,vs,ns,rfl,rfl,hobj,hints,hlen⟩:=script_of hn hpre hwl
 refine enter_call (codeAny_mono (call w s₀ s₁ mg mb fa o pm cd doc a vs ns G Y ho (fd_plain hd) hcd hmg hobj hints hlen hg) fun r s' hq=>?_)
 obtain ⟨rfl,h2,h3,h4⟩:=hq
 exact ⟨.inl ⟨.bool true,.bool true,[],rfl,fun _=>rfl,.bool true,post_true l _,fun _=>⟨List.Pairwise.nil,fun _ hm=>(nomatch hm)⟩⟩,h2,h3,h4⟩
section
variable {prog:Program} {w:World} {A:Around} {E:Value→Shared→Prop} {s:Shared} {K:Frag}
def ledger (h:Heap) (L d:Addr):List (Addr×Obj):=(List.range h.objs.size).filterMap fun a=>if a=L∨a=d then none else (h.get? a).map fun o=>(a,o)
end
end Att
namespace L2
open PySem PySem.Spec PyProof.Rows
theorem vals_ints:∀ {vs:List Value} {ns:List Int},IntsAre vs ns→Vals (ns.map V.int) vs
 | _,_,.nil=>.nil
 | _,_,.cons n t h=>.cons ⟨t,rfl⟩ (vals_ints h)
def Only (H:Hp):Prop:=∀ b,H b=none∨∃ o xs,H b=some (.frz o (.lst xs))
theorem law_call {P:Program} {w:World} {K:PySem.W.Frag} {mg mb:Str→Option Value} {CX:CXT} {k:Nat} {fa a:Addr} {fd:FuncData} {x:Str} {sp:Sp} {s₁:Shared} {vs:List Value} {ns:List Int}
  (KX:K.In s₁.heap) (hns:s₁.heap.Ns mainGlobals mg) (hb:s₁.heap.Ns builtinsNs mb) (hbb:∀ x:Str,x≠"__name__"→mb x=bootBuiltins x) (hlim:s₁.heap.NoLimit) (hsys:∃ mm,s₁.heap.Ns sysModules mm) (hg:s₁.gens=#[])
  (ha:s₁.heap.get? a=some { cls:=.type "list",data:=.seq vs.toArray }) (hi:IntsAre vs ns) (hl:ns.length≤sizeLine) (hr:Room k callerA)
  (F:∀ base:Heap,K.In base→base.Ns mainGlobals mg→FnOk P w K mg base CX k fa fd [x] sp) (hbind:∀ (s:Shared) (u:Value),BindsTo s fd ⟨[u],[]⟩ [(x,u)])
  (hsp:∀ H:Hp,Only H→SqL K H a (ns.map V.int)→sp [.ref a] H (fun v _=>v=.bl true) fun _ _ _=>False)
  (hCX:∀ H e s',CX [] H s₁ (fun _ _ _=>False) e s'→False) :
  codeAny (model P w) callerA (.call (.ref fa) ⟨[.ref a],[]⟩) (fun r s'=>r=.ok (.ret (.bool true))∧OldK s₁.heap s'.heap∧s'.os=s₁.os∧AllBare s'.gens) s₁:=by
 have rv:=vals_ints hi
 have lenV:=hi.length
 have core:∀ H:Hp,Only H→SqL K H a (ns.map V.int)→HOk P w H s₁.heap→(∀ b,H b≠none→b=a)→(H a≠none→K.lookup a=none) →
   codeAny (model P w) callerA (.call (.ref fa) ⟨[.ref a],[]⟩) (fun r s'=>r=.ok (.ret (.bool true))∧OldK s₁.heap s'.heap∧s'.os=s₁.os∧AllBare s'.gens) s₁:=by
  intro H hO hS hok hA hK
  have base_of:∀ {b:Addr} {o:Obj},s₁.heap.get? b=some o→H b=none→(hidT s₁.heap H).get? b=some o:=fun e n=>hidT_get e n
  have noA:∀ {b:Addr} {o:Obj} {es:Array DictEntry} {ep:Nat},s₁.heap.get? b=some o→o.data=.dict es ep→H b=none:=fun {b o es ep} e d=>by
   cases q:H b with
   | none=>rfl
   | some u =>
    have e':b=a:=hA b (by rw [q]; simp)
    subst e'
    rw [ha] at e; cases e
    have d':Data.seq vs.toArray _=Data.dict es ep:=d
    cases d'
  have nsK:∀ {b:Addr} {m:Str→Option Value},s₁.heap.Ns b m→(hidT s₁.heap H).Ns b m:=fun {b m} ⟨o,es,ep,e,d,r⟩=>⟨o,es,ep,base_of e (noA e d),d,r⟩
  have hKb:K.In (hidT s₁.heap H):=fun b o e=>base_of (KX b o e) (by
   cases q:H b with
   | none=>rfl
   | some u =>
    have e':b=a:=hA b (by rw [q]; simp)
    subst e'
    rw [hK (by rw [q]; simp)] at e; cases e)
  have hM:Mod K mg (hidT s₁.heap H):=⟨hKb,nsK hns,⟨mb,nsK hb,hbb⟩,let ⟨mc,h1,h2⟩:=hlim; ⟨mc,nsK h1,h2⟩,let ⟨mm,h1⟩:=hsys; ⟨mm,nsK h1⟩⟩
  have e0:Env0 P w K mg (hidT s₁.heap H) callerA [] s₁ H:=⟨rfl,hM,fun b o e=>of_hidT e,Nat.le_of_eq (hidT_size _ _),trivial,fun b hb=>absurd (show b∈([]:List Addr) from hb) (by simp),hok,.of_eq hg⟩
  refine codeAny_mono ((F _ hKb (nsK hns)).run callerA [] s₁ H ⟨[.ref a],[]⟩ [.ref a] [.ref a] _ _ hr e0 (hbind s₁ (.ref a)) (.cons rfl .nil) (hsp H hO hS)) fun r s' h=>?_
  cases r with
  | error e=>exact (hCX H e s' h).elim
  | ok fl =>
   cases fl with
   | next=>exact False.elim h
   | brk=>exact False.elim h
   | cont=>exact False.elim h
   | ret u =>
    obtain ⟨v,H',os,bare,un,hok',r',q⟩:=h
    have q':v=.bl true:=q
    subst q'
    obtain rfl:u=Value.bool true:=r'
    refine ⟨rfl,OldK.of_keep fun b o e=>?_,os,bare⟩
    cases q:H b with
    | none=>exact un.keep b o e q (by intro z; exact absurd (show b∈([]:List Addr) from z) (by simp)) (by simp)
    | some u =>
     rcases hO b with z | ⟨ob,xs,z⟩
     ·
      rw [q] at z; cases z
     ·
      have z2:=un.frzs b ob _ z
      obtain ⟨e1,_⟩:=hok b _ z
      obtain ⟨e2,_⟩:=hok' b _ z2
      rw [e] at e1; cases e1
      exact e2
 cases hk:K.lookup a with
 | some o =>
  have e:=KX a o hk
  rw [ha] at e
  cases e
  refine core (fun _=>none) (fun _=>.inl rfl) (.inr ⟨_,vs.toArray,_,hk,rfl,rfl,rfl,by rw [List.size_toArray,lenV]; exact hl,by simpa using rv⟩) (fun b u z=>by have z':(none:Option HO)=some u:=z; cases z') (fun b z=>absurd rfl z) fun z=>absurd rfl z
 | none =>
  refine core (fun b=>if b=a then some (.frz { cls:=.type "list",data:=.seq vs.toArray } (.lst (ns.map V.int))) else none) (fun b=>?_) (.inl (.inr ⟨{ cls:=.type "list",data:=.seq vs.toArray },if_pos rfl⟩)) (fun b u z=>?_) (fun b z=>?_) fun _=>hk
  ·
   by_cases hb:b=a
   ·
    exact .inr ⟨_,_,if_pos hb⟩
   ·
    exact .inl (if_neg hb)
  ·
   by_cases hb:b=a
   ·
    have z':=(if_pos hb).symm.trans z
    cases z'
    subst hb
    exact ⟨ha,by rw [List.length_map]; exact hl,vs,_,rv,ha⟩
   ·
    have z':=(if_neg hb).symm.trans z
    cases z'
  ·
   by_cases hb:b=a
   ·
    exact hb
   ·
    exact absurd (if_neg hb) z
end L2
namespace L2
open PySem PySem.Spec PyProof.Rows
theorem walk_of {l:PySem.W.OpenLaw} {n k:Nat} {q:Program} {loose:List Str} {XP:(Str→Option Value)→Heap→Prop} {YP:World→Heap→Prop} {d:DefRec} {K:Params→PySem.W.Frag} {CX:World→CXT} {sp:World→Sp} {x:Str}
  (hn:l.most=some n) (hq:importsNone q=true) (hn2:n≤sizeLine) (hdf:d.params.defaults=[]) (hr:Room k callerA)
  (hY:∀ (w:World) (h:Heap),YP w h→(K w.params).In h)
  (F:∀ (w:World) (mg:Str→Option Value) (fa:Addr) (h:Heap),(K w.params).In h→h.Ns mainGlobals mg→mg d.name=some (.ref fa) →
   ∃ fd:FuncData,(∀ (s:Shared) (u:Value),BindsTo s fd ⟨[u],[]⟩ [(x,u)]) ∧
    ∀ base:Heap,(K w.params).In base→base.Ns mainGlobals mg→FnOk l.prog w (K w.params) mg base (CX w) k fa fd [x] (sp w))
  (hsp:∀ (w:World) (H:Hp) (a:Addr) (ns:List Int),ns.length≤n→Only H→SqL (K w.params) H a (ns.map V.int)→sp w [.ref a] H (fun v _=>v=.bl true) fun _ _ _=>False)
  (hCX:∀ (w:World) (H:Hp) (s:Shared) (e:Value) (s':Shared),CX w [] H s (fun _ _ _=>False) e s'→False) :
  PySem.W.WalkO q loose XP YP l.row.toRowW d [] (fun f vs=>PySem.call f vs):=by
 refine Att.attach_call hn hdf fun w s₀ s₁ mg mb fa o pm cd doc a vs ns G Y ho hd hcd hmg hobj hints hlen hg=>?_
 have KX:=hY w _ Y
 obtain ⟨fd,hb,hF⟩:=F w mg fa _ KX G.T.g hmg
 exact law_call KX G.T.g G.T.b G.T.builtins G.T.nolimit (let ⟨mm,h1,_⟩:=(G.T.seer hq).mods; ⟨mm,h1⟩) hg hobj hints (Nat.le_trans hlen hn2) hr hF hb (fun H hO hS=>hsp w H a ns hlen hO hS) fun H e s'=>hCX w H s₁ e s'
end L2
namespace L2
open PySem PySem.Spec PyProof.Rows
def defArgs (s:Stmt):Arguments:=match s with
 | .FunctionDef _ a _ _ _ _ _ _ _ _=>a
 | _=>{ posonlyargs:=[],args:=[],vararg:=none,kwonlyargs:=[],kw_defaults:=[],kwarg:=none,defaults:=[] }
def defBody (s:Stmt):List Stmt:=match s with
 | .FunctionDef _ _ b _ _ _ _ _ _ _=>b
 | _=>[]
def defScope (s:Stmt):Scope:=match s with
 | .FunctionDef _ _ _ _ _ _ sc _ _ _=>sc
 | _=>{ kind:=.function,names:=[],isGenerator:=false,isCoroutine:=false }
abbrev CX0:CXT:=fun _ _ _ _ _ _=>False
abbrev E0:XK:=fun _ _ _=>False
theorem pass0 {X:Cx}:Passes CX0 X E0:=fun _ _ _ _ _ _ _ h=>h.elim
structure Fun (K:PySem.W.Frag) (x qual:Str) (st:Stmt) (f:Addr) (fd:FuncData):Prop where
 ex:∃ (oc:Value) (od:Option Addr) (kV doc pm:Value) (an:Option Addr) (cdv ct:Value) (osl:Array (Option Value)),
  fd=PySem.W.fnOf x qual (defArgs st) (defBody st) (defScope st) .none kV doc pm an cdv ct∧K.lookup f=some ⟨oc,od,.func fd,osl⟩∧PySem.W.codeIn K cdv qual=true
 kp:PySem.W.keepIn K (.ref f)=true
section
variable {P:Program} {w:World} {K:PySem.W.Frag} {mg:Str→Option Value} {base:Heap}
theorem Fun.ok {x qual:Str} {st:Stmt} {f:Addr} {fd:FuncData} {N ps:List Str} {k:Nat} {sp:Sp} (F:Fun K x qual st f fd) (S:FnScope N ps (defScope st)) (len:∀ vs H Q E,sp vs H Q E→vs.length=ps.length)
  (hbody:∀ (cdv:Value) (A:Around) (outer:List Env) (s:Shared) (H:Hp) (vs:List V) (Q:VK) (E:XK),Room k (A.deeper (envOfC qual (defScope st) s.heap.objs.size f cdv))→sp vs H Q E →
   ∃ t,PSs (cxOf CX0 P w K mg base N qual (defScope st) f cdv A outer s H E).nox (defBody st) t∧t { nx:=fun _ H'=>Q .non H',rt:=Q } (start N vs) H):FnOk P w K mg base CX0 (k+1) f fd ps sp:=by
 obtain ⟨oc,od,kV,doc,pm,an,cdv,ct,osl,rfl,lk,hcd⟩:=F.ex
 refine fn_of lk hcd S len fun A outer s H vs Q E hr hsp=>?_
 obtain ⟨t,h,q⟩:=hbody cdv A outer s H vs Q E hr hsp
 exact ⟨t,h.nox,q⟩
theorem Fun.binds {x qual:Str} {st:Stmt} {f:Addr} {fd:FuncData} {ps:List Str} (F:Fun K x qual st f fd)
  (h:∀ (kV doc pm:Value) (an:Option Addr) (cdv ct:Value) (us:List Value),us.length=ps.length→bindArgs (PySem.W.fnOf x qual (defArgs st) (defBody st) (defScope st) .none kV doc pm an cdv ct) ⟨us,[]⟩=pure (ps.zip us)):Binds K fd ps []:=by
 obtain ⟨oc,od,kV,doc,pm,an,cdv,ct,osl,rfl,lk,hcd⟩:=F.ex
 exact .all (h kV doc pm an cdv ct)
theorem fun_mk {x qual:Str} {st:Stmt} {f:Addr} {oc:Value} {od an:Option Addr} {osl:Array (Option Value)} {kV doc pm cdv ct:Value} (l:K.lookup f=some ⟨oc,od,.func (PySem.W.fnOf x qual (defArgs st) (defBody st) (defScope st) .none kV doc pm an cdv ct),osl⟩)
  (c:PySem.W.codeIn K cdv qual=true) (k:PySem.W.keepIn K (.ref f)=true):Fun K x qual st f (PySem.W.fnOf x qual (defArgs st) (defBody st) (defScope st) .none kV doc pm an cdv ct):=⟨⟨oc,od,kV,doc,pm,an,cdv,ct,osl,rfl,l,c⟩,k⟩
end
section
variable {X:Cx}
end
def Same (H H':Hp):Prop:=∀ b o,H b=some o→H' b=some o
theorem Same.free {H H':Hp} (e:Same H H') {l:Addr} (h:H' l=Option.none):H l=Option.none:=by
 cases q:H l with
 | none=>rfl
 | some o =>
  rw [e l o q] at h
  cases h
end L2
namespace L2
open PySem PySem.Spec PyProof.Rows
inductive D where
 | non | bl (b:Bool) | int (i:Int) | str (x:Str) | tup (xs:List D) | lst (xs:List D) | dct (n:Nat) | exc (c:Str) (ns:List Str) (xs:List D)
def SqZ (K:PySem.W.Frag) (H:Hp) (a:Addr) (xs:List V):Prop :=
 (∃ o,H a=some (.frz o (.lst xs))) ∨
  ∃ (o:Obj) (its:Array Value) (n:Nat),K.lookup a=some o∧o.cls=.type "list"∧o.dict=none∧o.data=.seq its n∧its.size≤sizeLine∧Vals xs its.toList
theorem SqZ.l {K:PySem.W.Frag} {H:Hp} {a:Addr} {xs:List V} (h:SqZ K H a xs):SqL K H a xs:=by
 rcases h with ⟨o,h⟩ | h
 ·
  exact .inl (.inr ⟨o,h⟩)
 ·
  exact .inr h
def noIns:HO→Prop
 | .frz _ u=>noIns u
 | .ins _ _ _=>False
 | _=>True
def excStd (K:PySem.W.Frag) (c:Str) (C:Addr):Bool:=match PySem.W.clsIn K C,PySem.W.nsIn K mainGlobals "LoadError" with
 | some cd,some (some (.ref L))=>cd.name == c && cd.hasDict && cd.mro == [.ref C,.ref L,.type "ValueError",.type "Exception",.type "BaseException",.type "object"] && (PySem.W.clsIn K L).any (fun k=>k.name == ("LoadError" : Str)) &&
  PySem.W.findIn K (.ref C) "__getattribute__" == some (some (.builtin "BaseException.__getattribute__")) && PySem.W.findIn K (.ref C) "__getattr__" == some none && PySem.W.findIn K (.ref C) "__class__" == some (some (.builtin "object.__class__")) &&
  PySem.W.findIn K (.ref C) "__setattr__" == some (some (.builtin "object.__setattr__")) && PySem.W.typeIn K (.ref C) == some (.type "type") && PySem.W.nsIn K mainGlobals c == some (some (.ref C))
 | _,_=>false
def XF (H:Hp) (dx:Option Addr) (ns:List Str) (vs:List V):Prop:=(ns=[]∧vs=[]∧dx=none)∨∃ d od,dx=some d∧H d=some (.frz od (.xd (ns.zip vs)))∧ns.length=vs.length
mutual
inductive Rep (K:PySem.W.Frag) (H:Hp):V→D→Prop where
 | non:Rep K H .non .non
 | bl (b:Bool):Rep K H (.bl b) (.bl b)
 | int (i:Int):Rep K H (.int i) (.int i)
 | str (x:Str):Rep K H (.str x) (.str x)
 | tup {a:Addr} {vs:List V} {ds:List D} (h:SqT K H a vs) (r:Reps K H vs ds):Rep K H (.ref a) (.tup ds)
 | lst {a:Addr} {vs:List V} {ds:List D} (h:SqZ K H a vs) (r:Reps K H vs ds):Rep K H (.ref a) (.lst ds)
 | dct {a:Addr} {o:Obj} {kvs:List (Key×V)} (h:H a=some (.frz o (.dK kvs))):Rep K H (.ref a) (.dct kvs.length)
 | exc {a:Addr} {o:Obj} {u:HO} {c:Str} {C:Addr} {ns:List Str} {vs:List V} {ds:List D} (h:H a=some (.frz o u)) (hv:noIns u) (hc:o.cls=.ref C) (hn:PySem.W.notCls o=true) (hs:excStd K c C=true) (hq:∀ f∈ns,PySem.W.findIn K (.ref C) f=some none) (hf:XF H o.dict ns vs) (r:Reps K H vs ds):Rep K H (.ref a) (.exc c ns ds)
inductive Reps (K:PySem.W.Frag) (H:Hp):List V→List D→Prop where
 | nil:Reps K H [] []
 | cons {v:V} {d:D} {vs:List V} {ds:List D} (h:Rep K H v d) (t:Reps K H vs ds):Reps K H (v::vs) (d::ds)
end
def Pers:HO→Prop
 | .tup _=>True
 | .frz _ _=>True
 | _=>False
def Pres (H H':Hp):Prop:=∀ b o,Pers o→H b=some o→H' b=some o
theorem SqT.pres {K:PySem.W.Frag} {H H':Hp} {a:Addr} {xs:List V} (p:Pres H H') (h:SqT K H a xs):SqT K H' a xs:=by
 rcases h with (h | ⟨o,h⟩) | h
 ·
  exact .inl (.inl (p _ _ True.intro h))
 ·
  exact .inl (.inr ⟨o,p _ _ True.intro h⟩)
 ·
  exact .inr h
theorem SqZ.pres {K:PySem.W.Frag} {H H':Hp} {a:Addr} {xs:List V} (p:Pres H H') (h:SqZ K H a xs):SqZ K H' a xs:=by
 rcases h with ⟨o,h⟩ | h
 ·
  exact .inl ⟨o,p _ _ True.intro h⟩
 ·
  exact .inr h
theorem XF.pres {H H':Hp} (p:Pres H H') {dx:Option Addr} {ns:List Str} {vs:List V} (h:XF H dx ns vs):XF H' dx ns vs:=by
 rcases h with h | ⟨d,od,e,h,l⟩
 ·
  exact .inl h
 ·
  exact .inr ⟨d,od,e,p _ _ True.intro h,l⟩
mutual
theorem Rep.pres {K:PySem.W.Frag} {H H':Hp} (p:Pres H H'):∀ {v:V} {d:D},Rep K H v d→Rep K H' v d
 | _,_,.non=>.non
 | _,_,.bl b=>.bl b
 | _,_,.int i=>.int i
 | _,_,.str x=>.str x
 | _,_,.tup h r=>.tup (h.pres p) (Reps.pres p r)
 | _,_,.lst h r=>.lst (h.pres p) (Reps.pres p r)
 | _,_,.dct h=>.dct (p _ _ True.intro h)
 | _,_,.exc h hv hc hn hs hq hf r=>.exc (p _ _ True.intro h) hv hc hn hs hq (hf.pres p) (Reps.pres p r)
theorem Reps.pres {K:PySem.W.Frag} {H H':Hp} (p:Pres H H'):∀ {vs:List V} {ds:List D},Reps K H vs ds→Reps K H' vs ds
 | _,_,.nil=>.nil
 | _,_,.cons h t=>.cons (Rep.pres p h) (Reps.pres p t)
end
theorem Reps.length {K:PySem.W.Frag} {H:Hp}:∀ {vs:List V} {ds:List D},Reps K H vs ds→vs.length=ds.length
 | _,_,.nil=>rfl
 | _,_,.cons _ t=>by simp [Reps.length t]
theorem Reps.get {K:PySem.W.Frag} {H:Hp}:∀ {vs:List V} {ds:List D} {i:Nat} {d:D},Reps K H vs ds→ds[i]?=some d→∃ v,vs[i]?=some v∧Rep K H v d
 | _,_,_,_,.nil,e=>by simp at e
 | _,_,0,_,.cons h _,e=>by simp at e; subst e; exact ⟨_,rfl,h⟩
 | _,_,i+1,d,.cons _ t,e=>by
  obtain ⟨v,h1,h2⟩:=Reps.get (i:=i) (d:=d) t (by simpa using e)
  exact ⟨v,by simpa using h1,h2⟩
theorem Reps.set {K:PySem.W.Frag} {H:Hp} {v:V} {d:D} (r:Rep K H v d):∀ {vs:List V} {ds:List D} (i:Nat),Reps K H vs ds→Reps K H (vs.set i v) (ds.set i d)
 | _,_,_,.nil=>.nil
 | _,_,0,.cons _ t=>.cons r t
 | _,_,i+1,.cons h t=>.cons h (Reps.set r i t)
theorem Reps.append {K:PySem.W.Frag} {H:Hp}:∀ {vs us:List V} {ds es:List D},Reps K H vs ds→Reps K H us es→Reps K H (vs++us) (ds++es)
 | _,_,_,_,.nil,s=>s
 | _,_,_,_,.cons h t,s=>.cons h (Reps.append t s)
theorem Reps.take {K:PySem.W.Frag} {H:Hp}:∀ {vs:List V} {ds:List D} (n:Nat),Reps K H vs ds→Reps K H (vs.take n) (ds.take n)
 | _,_,0,_=>.nil
 | _,_,_+1,.nil=>.nil
 | _,_,n+1,.cons h t=>.cons h (Reps.take n t)
theorem Reps.drop {K:PySem.W.Frag} {H:Hp}:∀ {vs:List V} {ds:List D} (n:Nat),Reps K H vs ds→Reps K H (vs.drop n) (ds.drop n)
 | _,_,0,r=>r
 | _,_,_+1,.nil=>.nil
 | _,_,n+1,.cons _ t=>Reps.drop n t
theorem Reps.reverse {K:PySem.W.Frag} {H:Hp}:∀ {vs:List V} {ds:List D},Reps K H vs ds→Reps K H vs.reverse ds.reverse
 | _,_,.nil=>.nil
 | _,_,.cons h t=>by
  rw [List.reverse_cons,List.reverse_cons]
  exact (Reps.reverse t).append (.cons h .nil)
inductive L where
 | un | d (x:D) | own (a:Addr) (xs:List D) | bx (k:Option Addr) (ls:List L) | dic (a:Addr) (kvs:List (Key×D))
abbrev Ev:=List L
mutual
def ownsL:L→List Addr
 | .un=>[]
 | .d _=>[]
 | .own a _=>[a]
 | .bx k ls=>k.toList++ownsLs ls
 | .dic a _=>[a]
def ownsLs:List L→List Addr
 | []=>[]
 | l::ls=>ownsL l++ownsLs ls
end
def owns (ρ:Ev):List Addr:=ρ.flatMap ownsL
theorem ownsLs_eq:∀ ls:List L,ownsLs ls=owns ls
 | []=>rfl
 | l::ls=>by rw [ownsLs,ownsLs_eq ls]; rfl
mutual
def Slot1 (K:PySem.W.Frag) (H:Hp) (s:Option V):L→Prop
 | .un=>True
 | .d x=>∃ v,s=some v∧Rep K H v x
 | .own a xs=>s=some (.ref a)∧∃ vs,H a=some (.lst vs)∧Reps K H vs xs
 | .bx none ls=>∃ a vs,s=some (.ref a)∧SqT K H a vs∧Slots K H vs ls
 | .bx (some a) ls=>s=some (.ref a)∧∃ vs,H a=some (.lst vs)∧Slots K H vs ls
 | .dic a kvs=>s=some (.ref a)∧∃ vs,H a=some (.dK vs)∧Paired (fun (p:Key×V) (q:Key×D)=>p.1=q.1∧Rep K H p.2 q.2) vs kvs
def Slots (K:PySem.W.Frag) (H:Hp) (vs:List V):List L→Prop
 | []=>vs=[]
 | l::ls=>∃ v us,vs=v::us∧Slot1 K H (some v) l∧Slots K H us ls
end
mutual
theorem Slot1.pres {K:PySem.W.Frag} {H H':Hp} (p:Pres H H'):∀ {s:Option V} (l:L),(∀ a∈ownsL l,H' a=H a)→Slot1 K H s l→Slot1 K H' s l
 | _,.un,_,_=>by simp only [Slot1]
 | _,.d x,_,h=>by
  simp only [Slot1] at h ⊢
  obtain ⟨v,e,r⟩:=h
  exact ⟨v,e,r.pres p⟩
 | _,.own a xs,q,h=>by
  simp only [Slot1] at h ⊢
  obtain ⟨e,vs,ha,r⟩:=h
  exact ⟨e,vs,(q a (by simp [ownsL])).trans ha,r.pres p⟩
 | _,.bx none ls,q,h=>by
  simp only [Slot1] at h ⊢
  obtain ⟨a,vs,e,ha,r⟩:=h
  exact ⟨a,vs,e,ha.pres p,Slots.pres p ls (fun b hb=>q b (by simp [ownsL,hb])) r⟩
 | _,.bx (some a) ls,q,h=>by
  simp only [Slot1] at h ⊢
  obtain ⟨e,vs,ha,r⟩:=h
  exact ⟨e,vs,(q a (by simp [ownsL])).trans ha,Slots.pres p ls (fun b hb=>q b (by simp [ownsL,hb])) r⟩
 | _,.dic a kvs,q,h=>by
  simp only [Slot1] at h ⊢
  obtain ⟨e,vs,ha,r⟩:=h
  exact ⟨e,vs,(q a (by simp [ownsL])).trans ha,Paired.mapP r fun _ _ z=>⟨z.1,z.2.pres p⟩⟩
theorem Slots.pres {K:PySem.W.Frag} {H H':Hp} (p:Pres H H'):∀ {vs:List V} (ls:List L),(∀ a∈ownsLs ls,H' a=H a)→Slots K H vs ls→Slots K H' vs ls
 | _,[],_,h=>by simpa only [Slots] using h
 | _,l::ls,q,h=>by
  simp only [Slots] at h ⊢
  obtain ⟨v,us,e,h1,h2⟩:=h
  exact ⟨v,us,e,Slot1.pres p l (fun b hb=>q b (by simp [ownsLs,hb])) h1,Slots.pres p ls (fun b hb=>q b (by simp [ownsLs,hb])) h2⟩
end
def OMut:HO→Prop
 | .lst _=>True
 | .dK _=>True
 | _=>False
theorem OMut.no {o:HO} (h:OMut o) (p:Pers o):False:=by cases o <;> first | exact h | exact p
mutual
theorem Slot1.lstAt {K:PySem.W.Frag} {H:Hp}:∀ {s:Option V} (l:L),Slot1 K H s l→∀ a∈ownsL l,∃ o,H a=some o∧OMut o
 | _,.un,_,a,ha=>by simp [ownsL] at ha
 | _,.d x,_,a,ha=>by simp [ownsL] at ha
 | _,.own b xs,h,a,ha=>by
  simp only [Slot1] at h
  have e:a=b:=by simpa [ownsL] using ha
  subst e
  obtain ⟨_,vs,q,_⟩:=h
  exact ⟨_,q,True.intro⟩
 | _,.bx none ls,h,a,ha=>by
  simp only [Slot1] at h
  obtain ⟨b,vs,e,_,r⟩:=h
  exact Slots.lstAt ls r a (by simpa [ownsL] using ha)
 | _,.bx (some b) ls,h,a,ha=>by
  simp only [Slot1] at h
  obtain ⟨e,vs,q,r⟩:=h
  rcases (by simpa [ownsL] using ha:a=b∨a∈ownsLs ls) with z | z
  ·
   subst z; exact ⟨_,q,True.intro⟩
  ·
   exact Slots.lstAt ls r a z
 | _,.dic b xs,h,a,ha=>by
  simp only [Slot1] at h
  have e:a=b:=by simpa [ownsL] using ha
  subst e
  obtain ⟨_,vs,q,_⟩:=h
  exact ⟨_,q,True.intro⟩
theorem Slots.lstAt {K:PySem.W.Frag} {H:Hp}:∀ {vs:List V} (ls:List L),Slots K H vs ls→∀ a∈ownsLs ls,∃ o,H a=some o∧OMut o
 | _,[],_,a,ha=>by simp [ownsLs] at ha
 | _,l::ls,h,a,ha=>by
  simp only [Slots] at h
  obtain ⟨v,us,e,h1,h2⟩:=h
  rcases (by simpa [ownsLs] using ha:a∈ownsL l∨a∈ownsLs ls) with z | z
  ·
   exact Slot1.lstAt l h1 a z
  ·
   exact Slots.lstAt ls h2 a z
end
structure REnv (K:PySem.W.Frag) (Pr H:Hp) (σ:St) (ρ:Ev):Prop where
 sub:∀ b o,Pr b=some o→H b=some o
 nd:(owns ρ).Nodup
 off:∀ a∈owns ρ,Pr a=none
 sl:Paired (Slot1 K H) σ ρ
theorem mem_owns {ρ:Ev} {a:Addr}:a∈owns ρ↔∃ l∈ρ,a∈ownsL l:=by
 unfold owns
 rw [List.mem_flatMap]
theorem own_mem {ρ:Ev} {a:Addr} {xs:List D} (h:L.own a xs∈ρ):a∈owns ρ:=mem_owns.mpr ⟨_,h,by simp [ownsL]⟩
theorem owns_append (a b:Ev):owns (a++b)=owns a++owns b:=List.flatMap_append
theorem Paired.mem2 {α β:Type} {F:α→β→Prop}:∀ {l1:List α} {l2:List β} {b:β},Paired F l1 l2→b∈l2→∃ a,a∈l1∧F a b
 | _,_,_,.nil,h=>by simp at h
 | _,_,_,.cons r t,h=>by
  rcases List.mem_cons.mp h with rfl | h
  ·
   exact ⟨_,List.mem_cons_self,r⟩
  ·
   obtain ⟨a,h1,h2⟩:=Paired.mem2 t h
   exact ⟨a,List.mem_cons_of_mem _ h1,h2⟩
theorem Paired.app {α β:Type} {F:α→β→Prop}:∀ {a c:List α} {b d:List β},Paired F a b→Paired F c d→Paired F (a++c) (b++d)
 | _,_,_,_,.nil,s=>s
 | _,_,_,_,.cons r t,s=>.cons r (Paired.app t s)
theorem Paired.unapp {α β:Type} {F:α→β→Prop}:∀ {a c:List α} {b d:List β},a.length=b.length→Paired F (a++c) (b++d)→Paired F a b∧Paired F c d
 | [],_,[],_,_,s=>⟨.nil,s⟩
 | x::a,_,y::b,_,hl,.cons r t=>by
  obtain ⟨p,q⟩:=Paired.unapp (a:=a) (b:=b) (by simpa using hl) t
  exact ⟨.cons r p,q⟩
 | [],_,_::_,_,hl,_=>by simp at hl
 | _::_,_,[],_,hl,_=>by simp at hl
theorem Paired.get2 {α β:Type} {F:α→β→Prop}:∀ {l1:List α} {l2:List β} {i:Nat} {b:β},Paired F l1 l2→l2[i]?=some b→∃ a,l1[i]?=some a∧F a b
 | _,_,_,_,.nil,e=>by simp at e
 | _,_,0,_,.cons h _,e=>by simp at e; subst e; exact ⟨_,rfl,h⟩
 | _,_,i+1,d,.cons _ t,e=>by
  obtain ⟨v,h1,h2⟩:=Paired.get2 (i:=i) (b:=d) t (by simpa using e)
  exact ⟨v,by simpa using h1,h2⟩
theorem Paired.set2 {α β:Type} {F:α→β→Prop} {a:α} {b:β} (r:F a b):∀ {l1:List α} {l2:List β} (i:Nat),Paired F l1 l2→Paired F (l1.set i a) (l2.set i b)
 | _,_,_,.nil=>.nil
 | _,_,0,.cons _ t=>.cons r t
 | _,_,i+1,.cons h t=>.cons h (Paired.set2 r i t)
theorem Paired.impMem {α β:Type} {F G:α→β→Prop}:∀ {l1:List α} {l2:List β},Paired F l1 l2→(∀ b∈l2,∀ a,F a b→G a b)→Paired G l1 l2
 | _,_,.nil,_=>.nil
 | _,_,.cons r t,h=>.cons (h _ List.mem_cons_self _ r) (Paired.impMem t fun b hb=>h b (List.mem_cons_of_mem _ hb))
theorem Paired.set_r {α β:Type} {F:α→β→Prop} {b:β}:∀ {l1:List α} {l2:List β} (i:Nat),Paired F l1 l2→(∀ a,l1[i]?=some a→F a b)→Paired F l1 (l2.set i b)
 | _,_,_,.nil,_=>.nil
 | _,_,0,.cons _ t,h=>.cons (h _ rfl) t
 | _,_,i+1,.cons q t,h=>.cons q (Paired.set_r i t fun a e=>h a (by simpa using e))
section
variable {K:PySem.W.Frag} {Pr H H':Hp} {σ τ w σ':St} {ρ μ lam ρ':Ev}
theorem REnv.len (E:REnv K Pr H σ ρ):σ.length=ρ.length:=Paired.length E.sl
def butOwn (H:Hp) (ρ:Ev):Hp:=fun b=>if b∈owns ρ then none else H b
theorem REnv.at_own (E:REnv K Pr H σ ρ) {a:Addr} (h:a∈owns ρ):∃ o,H a=some o∧OMut o:=by
 obtain ⟨l,hx,ha⟩:=mem_owns.mp h
 obtain ⟨s,_,q⟩:=Paired.mem2 E.sl hx
 exact q.lstAt l a ha
theorem REnv.wide (E:REnv K Pr H σ ρ):REnv K (butOwn H ρ) H σ ρ :=
 ⟨fun b o e=>by unfold butOwn at e; split at e; cases e; exact e,E.nd,fun a h=>by unfold butOwn; rw [if_pos h],E.sl⟩
theorem REnv.drop (E:REnv K Pr H (τ++σ) (lam++ρ)) (hl:τ.length=lam.length):REnv K Pr H σ ρ :=
 ⟨E.sub,(List.nodup_append.mp (owns_append lam ρ ▸ E.nd)).2.1,fun a h=>E.off a (by rw [owns_append]; exact List.mem_append_right _ h),(Paired.unapp hl E.sl).2⟩
theorem REnv.left (E:REnv K Pr H (τ++σ) (lam++ρ)) (hl:τ.length=lam.length):REnv K Pr H τ lam :=
 ⟨E.sub,(List.nodup_append.mp (owns_append lam ρ ▸ E.nd)).1,fun a h=>E.off a (by rw [owns_append]; exact List.mem_append_left _ h),(Paired.unapp hl E.sl).1⟩
theorem pres_of {H H':Hp} {ρ:Ev} {σ:St} {Pr:Hp} (E:REnv K Pr H σ ρ) (h:∀ b o,butOwn H ρ b=some o→H' b=some o):Pres H H':=fun b o p e=>by
 refine h b o ?_
 unfold butOwn
 rw [if_neg,e]
 intro hm
 obtain ⟨u,e',m⟩:=E.at_own hm
 rw [e] at e'
 cases e'
 exact m.no p
theorem REnv.step (E:REnv K Pr H (τ++σ) (lam++ρ)) (hl:τ.length=lam.length) (E':REnv K (butOwn H ρ) H' (w++σ') (μ++ρ')) (hw:w.length=μ.length):REnv K Pr H' (w++(τ++σ')) (μ++(lam++ρ')):=by
 have Eσ:=E.drop hl
 have p:Pres H H':=pres_of Eσ E'.sub
 have dis:∀ a∈owns lam,a∉owns ρ:=fun a h1 h2=>(List.nodup_append.mp (owns_append lam ρ ▸ E.nd)).2.2 a h1 a h2 rfl
 have at':∀ a∈owns lam,butOwn H ρ a=H a:=fun a h=>by unfold butOwn; rw [if_neg (dis a h)]
 have some':∀ a∈owns lam,∃ o,H a=some o∧OMut o:=fun a h=>E.at_own (by rw [owns_append]; exact List.mem_append_left _ h)
 have out:∀ a∈owns lam,a∉owns (μ++ρ'):=fun a h h2=>by
  have z:=E'.off a h2
  rw [at' a h] at z
  obtain ⟨vs,e,_⟩:=some' a h
  rw [e] at z
  cases z
 have s1:=(Paired.unapp hw E'.sl)
 have s2:=(Paired.unapp hl E.sl).1
 refine ⟨fun b o e=>?_,?_,fun a ha=>?_,Paired.app s1.1 (Paired.app ?_ s1.2)⟩
 ·
  refine E'.sub b o ?_
  unfold butOwn
  rw [if_neg,E.sub b o e]
  intro hm
  have z:=Eσ.off b hm
  rw [e] at z
  cases z
 ·
  have n1:=E'.nd
  rw [owns_append] at n1
  rw [owns_append,owns_append]
  obtain ⟨q1,q2,q3⟩:=List.nodup_append.mp n1
  refine List.nodup_append.mpr ⟨q1,List.nodup_append.mpr ⟨(List.nodup_append.mp (owns_append lam ρ ▸ E.nd)).1,q2,fun a ha b hb=>?_⟩,fun a ha b hb=>?_⟩
  ·
   rintro rfl
   exact out a ha (by rw [owns_append]; exact List.mem_append_right _ hb)
  ·
   rcases List.mem_append.mp hb with hb | hb
   ·
    rintro rfl
    exact out a hb (by rw [owns_append]; exact List.mem_append_left _ ha)
   ·
    exact q3 a ha b hb
 ·
  rw [owns_append,owns_append] at ha
  have key:a∈owns (μ++ρ')→Pr a=none:=fun h=>by
   have z:=E'.off a h
   unfold butOwn at z
   by_cases hm:a∈owns ρ
   ·
    exact Eσ.off a hm
   ·
    rw [if_neg hm] at z
    cases q:Pr a with
    | none=>rfl
    | some o=>rw [E.sub a o q] at z; cases z
  rcases List.mem_append.mp ha with h | h
  ·
   exact key (by rw [owns_append]; exact List.mem_append_left _ h)
  ·
   rcases List.mem_append.mp h with h | h
   ·
    exact E.off a (by rw [owns_append]; exact List.mem_append_left _ h)
   ·
    exact key (by rw [owns_append]; exact List.mem_append_right _ h)
 ·
  have:∀ l∈lam,∀ s,Slot1 K H s l→Slot1 K H' s l:=fun l hlm s h=>h.pres p l fun a e=>by
   have ha:a∈owns lam:=mem_owns.mpr ⟨l,hlm,e⟩
   obtain ⟨vs,e,_⟩:=some' a ha
   rw [E'.sub a _ ((at' a ha).trans e),e]
  exact Paired.impMem s2 this
end
end L2
namespace L2
open PySem PySem.Spec PyProof.Rows PySem.W
structure XStd (K:Frag) (c:Str) (C L:Addr) (cd:ClassData):Prop where
 cls:clsIn K C=some cd
 load:nsIn K mainGlobals "LoadError"=some (some (.ref L))
 name:cd.name=c
 dct:cd.hasDict=true
 mro:cd.mro=[.ref C,.ref L,.type "ValueError",.type "Exception",.type "BaseException",.type "object"]
 lname:∃ k,clsIn K L=some k∧k.name=("LoadError" : Str)
 ga:findIn K (.ref C) "__getattribute__"=some (some (.builtin "BaseException.__getattribute__"))
 gx:findIn K (.ref C) "__getattr__"=some none
 gc:findIn K (.ref C) "__class__"=some (some (.builtin "object.__class__"))
 sa:findIn K (.ref C) "__setattr__"=some (some (.builtin "object.__setattr__"))
 ty:typeIn K (.ref C)=some (.type "type")
 own:nsIn K mainGlobals c=some (some (.ref C))
theorem excStd_is {K:Frag} {c:Str} {C:Addr} (h:excStd K c C=true):∃ L cd,XStd K c C L cd:=by
 unfold excStd at h
 split at h
 ·
  rename_i cd L e1 e2
  simp only [Bool.and_eq_true,beq_iff_eq] at h
  obtain ⟨⟨⟨⟨⟨⟨⟨⟨⟨h1,h2⟩,h3⟩,h4⟩,h5⟩,h6⟩,h7⟩,h8⟩,h9⟩,h10⟩:=h
  obtain ⟨k,hk,hn⟩:=any_some h4
  exact ⟨L,cd,e1,e2,h1,h2,h3,⟨k,hk,beq_iff_eq.mp hn⟩,h5,h6,h7,h8,h9,h10⟩
 ·
  cases h
section
variable {K:Frag} {c:Str} {C L:Addr} {cd:ClassData}
theorem XStd.mroIn (S:XStd K c C L cd) (b:Value):PySem.W.mroIn K C b=some (([.ref C,.ref L,.type "ValueError",.type "Exception",.type "BaseException",.type "object"]:List Value).contains b):=by
 unfold PySem.W.mroIn
 rw [S.cls,Option.bind_some,S.mro]
 rfl
theorem xmro_type (C L:Addr) (T:String):(([.ref C,.ref L,.type "ValueError",.type "Exception",.type "BaseException",.type "object"]:List Value).contains (.type T))=(["ValueError","Exception","BaseException","object"]:List String).contains T:=by
 simp only [List.contains_cons,List.contains_nil,Bool.or_false]
 have e:∀ a:Addr,(Value.type T == Value.ref a)=false:=fun _=>rfl
 have f:∀ U:String,(Value.type T == Value.type U)=(T == U):=fun U=>by
  by_cases q:T=U
  ·
   subst q; simp
  ·
   rw [beq_eq_false_iff_ne.mpr q,beq_eq_false_iff_ne]
   intro z; injection z with z; exact q z
 rw [e,e,f,f,f,f]; rfl
theorem XStd.has (S:XStd K c C L cd) {T:String} (h:(["ValueError","Exception","BaseException","object"]:List String).contains T=true):PySem.W.mroIn K C (.type T)=some true:=by
 rw [S.mroIn,xmro_type,h]
theorem XStd.isT (S:XStd K c C L cd) {M:Model} {h:Heap} (X:K.In h) (T:String):Looks M h (isSubtype (.ref C) (.type T)) ((["ValueError","Exception","BaseException","object"]:List String).contains T):=looks_mroIn X (by rw [S.mroIn,xmro_type])
end
section
variable {prog:Program} {w:World} {A:Around} {E:Value→Shared→Prop} {s:Shared} {K:Frag} {c:Str} {x C L:Addr} {cd:ClassData} {ox:Obj} {od:Option Obj} {name:Str}
theorem xclass_entry {tk:Tok} {Q:Fin→Shared→Prop} (S:XStd K c C L cd) (X:K.In s.heap) (I:InstAt s.heap x ox C od) (hf:findObj K C od "__class__"=some (.bind (.builtin "getset_descriptor.__get__") (.builtin "object.__class__"))) (hq:Q (.done (.ret (.ref C))) s) :
  wpAny (model prog w) A (Builtin.«object.__getattribute__» ⟨[.ref x,.str "__class__" tk],[]⟩) Q E s:=by
 obtain ⟨hh,g,d,t,os⟩:=s
 have L0:=I.type (M:=model prog w)
 have L1:=looks_find (M:=model prog w) X I hf
 unfold Builtin.«object.__getattribute__»
 refine wpAny_bind (wpAny_pure (wpAny_bind (wpAny_pure ?_)))
 refine wpAny_bind (L0.at (wpAny_bind (L1.at ?_)))
 show wpAny _ _ (holding [Value.builtin "object.__class__"] (call (.builtin "getset_descriptor.__get__") [.builtin "object.__class__",.ref x,.ref C]) >>= ret) _ _ _
 refine wpAny_bind (wpAny_holding (wpAny_call ?_))
 exact class_get (s:=⟨hh,g,d,t,os⟩) (ox:=ox) (od:=od) X I (S.has (by decide)) (wpAny_pure hq)
theorem xget_by {tk:Tok} {v:Value} {fill expr:Bool} {Q:Value→Shared→Prop} (S:XStd K c C L cd) (X:K.In s.heap) (I:InstAt s.heap x ox C od)
  (he:∀ (A':Around) (Q':Fin→Shared→Prop),Q' (.done (.ret v)) s→wpAny (model prog w) A' (Builtin.«object.__getattribute__» ⟨[.ref x,.str name tk],[]⟩) Q' (fun _ _=>False) s) (hh:handedIn v=true) (hq:Q v s) :
  wpAny (model prog w) A (getAttrBy (.ref x) (.str name tk) fill expr) Q E s:=by
 have FB:=F.excAttr_ValueError
 have L0:=I.type (M:=model prog w)
 have L1:=looks_findIn (M:=model prog w) X S.ga
 have L2:=looks_findIn (M:=model prog w) X S.gx
 unfold getAttrBy
 refine wpAny_holding (wpAny_bind (L0.here (wpAny_bind (L1.here ?_))))
 have hx2:(Value.builtin "BaseException.__getattribute__" == Value.builtin "object.__getattribute__")=false:=by decide +kernel
 dsimp only
 rw [hx2,Bool.and_false,if_neg (by decide)]
 unfold getAttrByItsOwn
 refine wpAny_bind ((looks_hook (mc:=.ref C) X (r:=none) S.gx).here ?_)
 refine wpAny_bind (wpAny_attempt (wpAny_holding ?_))
 have hx0:(expr && onTheHeap (Value.builtin "BaseException.__getattribute__"))=false:=by cases expr <;> rfl
 unfold callGetattribute boundAndCalled
 rw [hx0,if_neg (by decide),FB.ga.bind]
 refine wpAny_bind (wpAny_pure (wpAny_call ?_))
 have hi:Looks (model prog w) s.heap (isInstance (.ref x) (.type "BaseException")) true:=L0.andThen (S.isT X _)
 have hkd:builtinKind "BaseException.__getattribute__"=some .slot:=by decide +kernel
 have hsp:splitId "BaseException.__getattribute__"=some ("BaseException","__getattribute__"):=by decide +kernel
 refine codeAny_call_builtin FB.ga.plain F.entry_bexc_ga (@check_slot (model prog w) _ _ s "BaseException.__getattribute__" "BaseException" "__getattribute__" (.ref x) [.str name tk] [] _ hkd hsp hi (F.args_bexc_ga (.ref x) (.str name tk)) ?_)
 refine wpAny_mono (he _ _ ?_) (fun _ _ z=>z) fun _ _ z=>z.elim
 show wpAny _ _ (handedOut v) _ _ _
 rw [handedOut_of hh]
 exact wpAny_pure hq
end
end L2
namespace L2
open PySem PySem.Spec PyProof.Rows PySem.W
theorem cls_get (K:Frag):specialIn K (.builtin "object.__class__") "__get__"=some (some (.builtin "getset_descriptor.__get__")):=(by decide +kernel:specialIn [] (.builtin "object.__class__") "__get__"=some (some (.builtin "getset_descriptor.__get__")))
theorem cls_takes (K:Frag):takesIn K (.builtin "object.__class__")=some true:=(by decide +kernel:takesIn [] (.builtin "object.__class__")=some true)
section
variable {prog:Program} {w:World} {A:Around} {E:Value→Shared→Prop} {s:Shared} {K:Frag} {c:Str} {x C L:Addr} {cd:ClassData} {ox:Obj} {od:Option Obj} {name:Str}
theorem XStd.fclass (S:XStd K c C L cd) (od:Option Obj):findObj K C od "__class__"=some (.bind (.builtin "getset_descriptor.__get__") (.builtin "object.__class__")):=by
 unfold findObj
 rw [S.cls,Option.bind_some,S.gc,Option.bind_some]
 simp [cls_get,cls_takes]
theorem xattr_class {Q:Option Value→Shared→Prop} (S:XStd K c C L cd) (X:K.In s.heap) (I:InstAt s.heap x ox C od) (hq:Q (some (.ref C)) { s with toks:=s.toks+1 }) :
  wpAny (model prog w) A (getAttr? (.ref x) "__class__") Q E s:=by
 obtain ⟨hh,g,d,t,os⟩:=s
 unfold getAttr? getAttrBy?
 refine wpAny_bind (wpAny_mkText (wpAny_bind (wpAny_attempt ?_)))
 exact xget_by (s:=⟨hh,g,d,t+1,os⟩) (ox:=ox) (od:=od) S X I (fun A' Q' q=>xclass_entry (s:=⟨hh,g,d,t+1,os⟩) S X I (S.fclass od) q) rfl (wpAny_pure hq)
theorem kitx_exc (S:XStd K c C L cd):KitX K (.ref x) (.ref C) (fun h=>∃ ox od,InstAt h x ox C od) where
 ty:=fun _ _ _ ⟨_,_,I⟩=>I.type
 it:=fun _ _ X _=>by
  have hc:=S.cls
  unfold clsIn at hc
  split at hc
  ·
   rename_i ho
   intro A' Q' E' s' k q
   unfold isType loadHead
   exact wpAny_bind (wpAny_loadPart (k _ _ (X _ _ ho)) (wpAny_pure q))
  ·
   cases hc
 ne:=fun h tp dd its n sl X htp=>by
  refine Bool.eq_false_iff.mpr fun q=>?_
  have e:C=tp:=Value.ref.inj (beq_iff_eq.mp q)
  subst e
  have hc:=S.cls
  unfold clsIn at hc
  split at hc
  ·
   rename_i ho
   have z:=(X _ _ ho).symm.trans htp
   cases z
  ·
   cases hc
 ca:=fun X ⟨_,_,I⟩ k=>xattr_class S X I k
end
section
variable {prog:Program} {w:World} {A:Around} {E:Value→Shared→Prop} {s:Shared} {K:Frag} {c:Str} {x C L:Addr} {cd:ClassData} {ox:Obj} {od:Option Obj} {name:Str}
end
end L2
namespace L2
open PySem PySem.Spec PyProof.Rows
section
variable {X:Cx} {pins:List (Addr×Obj)} {σ:St} {H:Hp} {s:Shared}
theorem Inv.reword {a:Addr} {u w:HO} (I:Inv X pins σ H s) (h:H a=some u) (hu:¬ Pers u) (hw:∀ y,u≠.own y) (ht:∀ ps,u≠.tbl ps) (nw:ObjOk X.prog X.w H s.heap a w) (hw2:∀ C dx fs,w≠.ins C dx fs):Inv X pins σ (upd H a w) s:=by
 have ne:∀ b,H b=none→b≠a:=fun b n e=>by subst e; rw [h] at n; cases n
 have nt:∀ b xs,H b=some (.tup xs)→b≠a:=fun b xs n e=>by subst e; rw [h] at n; cases n; exact hu True.intro
 have nf:∀ b o z,H b=some (.frz o z)→b≠a:=fun b o z n e=>by subst e; rw [h] at n; cases n; exact hu True.intro
 have no:∀ b z,H b=some (.own z)→b≠a:=fun b z n e=>by subst e; rw [h] at n; cases n; exact hw _ rfl
 refine ⟨I.ok,I.os,I.bare,⟨I.base.keep,I.base.slot,fun b ob e n hx=>?_,I.base.there,fun b xs e=>?_,fun b ob z e=>?_,fun b ps e=>?_⟩,I.loc,I.cell,?_,fun x c e=>?_,fun p hp=>?_,fun b z e=>?_,I.len⟩
 ·
  have q:=I.base.free b ob e n hx
  rw [upd_ne (ne b q)]; exact q
 ·
  have q:=I.base.tups b xs e
  rw [upd_ne (nt b xs q)]; exact q
 ·
  have q:=I.base.frzs b ob z e
  rw [upd_ne (nf b ob z q)]; exact q
 ·
  obtain ⟨more,q⟩:=I.base.tbls b ps e
  refine ⟨more,?_⟩
  rw [upd_ne (fun z=>by subst z; rw [h] at q; cases q; exact ht _ rfl)]; exact q
 ·
  rw [upd_ne (ne _ I.free)]; exact I.free
 ·
  rw [upd_ne (ne _ (I.freeC x c e))]; exact I.freeC x c e
 ·
  obtain ⟨e,n,r⟩:=I.pin p hp
  exact ⟨e,by rw [upd_ne (ne _ n)]; exact n,r⟩
 ·
  by_cases hb:b=a
  ·
   subst hb
   rw [upd_same] at e
   cases e
   exact nw.stay (fun c v _ q=>q) (fun c q=>by rw [upd_ne (no c _ q)]; exact q) fun c xs q=>by rw [upd_ne (nt c xs q)]; exact q
  ·
   rw [upd_ne hb] at e
   exact (I.hok b z e).stay (fun c v _ q=>q) (fun c q=>by rw [upd_ne (no c _ q)]; exact q) fun c xs q=>by rw [upd_ne (nt c xs q)]; exact q
theorem Inv.freezeL {a:Addr} {xs:List V} (I:Inv X pins σ H s) (h:H a=some (.lst xs)):∃ o,Inv X pins σ (upd H a (.frz o (.lst xs))) s:=by
 obtain ⟨z,its,n,r,e⟩:=id (I.hok a _ h)
 exact ⟨_,I.reword h (fun q=>q) (fun _ q=>nomatch q) (fun _ q=>nomatch q) ⟨e,z,its,n,r,e⟩ (fun _ _ _ q=>nomatch q)⟩
end
section
variable {K:PySem.W.Frag} {Pr H H':Hp} {σ τ w:St} {ρ μ lam ρ':Ev}
theorem REnv.new (E:REnv K Pr H σ ρ) {p:Addr} {o:HO} (h:H p=none):REnv K Pr (upd H p o) σ ρ:=by
 have k:∀ b u,H b=some u→upd H p o b=some u:=fun b u e=>by rw [upd_ne (ne_of_none e h)]; exact e
 exact ⟨fun b u e=>k b u (E.sub b u e),E.nd,E.off,Paired.impMem E.sl fun l hl s q=>q.pres (fun b u _ e=>k b u e) l fun a e=>by
  obtain ⟨vs,e,_⟩:=E.at_own (mem_owns.mpr ⟨l,hl,e⟩)
  rw [k _ _ e,e]⟩
theorem Reps.new {vs:List V} {ds:List D} (r:Reps K H vs ds) {p:Addr} {o:HO} (h:H p=none):Reps K (upd H p o) vs ds:=r.pres fun b u _ e=>by rw [upd_ne (ne_of_none e h)]; exact e
theorem owns_cons_un:owns (.un::ρ)=owns ρ:=rfl
theorem owns_cons_own {a:Addr} {xs:List D}:owns (.own a xs::ρ)=a::owns ρ:=rfl
theorem REnv.cons_d (E:REnv K Pr H σ ρ) {v:V} {x:D} (r:Rep K H v x):REnv K Pr H (some v::σ) (.d x::ρ):=⟨E.sub,E.nd,E.off,.cons ⟨v,rfl,r⟩ E.sl⟩
theorem REnv.cons_un (E:REnv K Pr H σ ρ) {v:Option V}:REnv K Pr H (v::σ) (.un::ρ):=⟨E.sub,E.nd,E.off,.cons True.intro E.sl⟩
theorem REnv.cons_own (E:REnv K Pr H σ ρ) {p:Addr} {vs:List V} {xs:List D} (h:H p=none) (r:Reps K H vs xs):REnv K Pr (upd H p (.lst vs)) (some (.ref p)::σ) (.own p xs::ρ):=by
 have E':=E.new (o:=.lst vs) h
 refine ⟨E'.sub,?_,fun a ha=>?_,.cons ⟨rfl,vs,upd_same,r.new h⟩ E'.sl⟩
 ·
  rw [owns_cons_own]
  refine List.nodup_cons.mpr ⟨fun hm=>?_,E.nd⟩
  obtain ⟨us,e,_⟩:=E.at_own hm
  rw [h] at e; cases e
 ·
  rw [owns_cons_own] at ha
  rcases List.mem_cons.mp ha with rfl | ha
  ·
   cases q:Pr a with
   | none=>rfl
   | some u=>rw [E.sub a u q] at h; cases h
  ·
   exact E.off a ha
theorem REnv.cons_tup (E:REnv K Pr H σ ρ) {p:Addr} {vs:List V} {xs:List D} (h:H p=none) (r:Reps K H vs xs):REnv K Pr (upd H p (.tup vs)) (some (.ref p)::σ) (.d (.tup xs)::ρ) :=
 (E.new h).cons_d (.tup (SqT.of upd_same) (r.new h))
theorem REnv.freeze (E:REnv K Pr H σ (.own a xs::ρ)) {vs:List V} (h:H a=some (.lst vs)) (o:Obj):REnv K Pr (upd H a (.frz o (.lst vs))) σ (.d (.lst xs)::ρ):=by
 have pa:Pr a=none:=E.off a (by rw [owns_cons_own]; exact List.mem_cons_self)
 have nd:=E.nd
 rw [owns_cons_own] at nd
 obtain ⟨hn,nd⟩:=List.nodup_cons.mp nd
 have p:Pres H (upd H a (.frz o (.lst vs))):=fun b u pu e=>by
  rw [upd_ne]; exact e
  rintro rfl
  rw [h] at e; cases e; exact pu
 refine ⟨fun b u e=>?_,nd,fun b hb=>E.off b (by rw [owns_cons_own]; exact List.mem_cons_of_mem _ hb),?_⟩
 ·
  rw [upd_ne]; exact E.sub b u e
  rintro rfl
  rw [pa] at e; cases e
 ·
  have sl:=E.sl
  cases sl with
  | cons q t =>
   obtain ⟨e,us,e2,r⟩:=q
   rw [h] at e2; cases e2
   refine .cons ⟨.ref a,e,.lst (.inl ⟨o,upd_same⟩) (r.pres p)⟩ (Paired.impMem t fun l hl s z=>z.pres p l fun b hbm=>?_)
   rw [upd_ne]
   rintro rfl
   exact hn (mem_owns.mpr ⟨l,hl,hbm⟩)
theorem owns_cons (l:L) (ρ:Ev):owns (l::ρ)=ownsL l++owns ρ:=rfl
theorem owns_set_own {a:Addr} {xs ys:List D}:∀ {ρ:Ev} {i:Nat},ρ[i]?=some (.own a xs)→owns (ρ.set i (.own a ys))=owns ρ
 | [],_,h=>by simp at h
 | _::_,0,h=>by simp at h; subst h; rfl
 | l::ρ,i+1,h=>by
  have ih:=owns_set_own (i:=i) (ρ:=ρ) (ys:=ys) (by simpa using h)
  show owns (l::ρ.set i (.own a ys))=owns (l::ρ)
  rw [owns_cons,owns_cons,ih]
theorem owns_takeL {k:L}:∀ {ρ:Ev} {i:Nat} {l:L},ρ[i]?=some k→ownsL l=[]→(owns ρ).Perm (ownsL k++owns (ρ.set i l))
 | [],_,_,h,_=>by simp at h
 | _::ρ,0,l,h,hl=>by
  simp at h; subst h
  show (owns (_::ρ)).Perm (_++owns (l::ρ))
  rw [owns_cons,owns_cons,hl]
  exact List.Perm.refl _
 | m::ρ,i+1,l,h,hl=>by
  have ih:=owns_takeL (i:=i) (ρ:=ρ) (l:=l) (by simpa using h) hl
  show (owns (m::ρ)).Perm (ownsL k++owns (m::ρ.set i l))
  rw [owns_cons,owns_cons]
  refine (List.Perm.append_left _ ih).trans ?_
  rw [← List.append_assoc,← List.append_assoc]
  exact List.Perm.append_right _ List.perm_append_comm
theorem owns_take {a:Addr} {xs:List D} {ρ:Ev} {i:Nat} {l:L} (h:ρ[i]?=some (.own a xs)) (hl:ownsL l=[]):(owns ρ).Perm (a::owns (ρ.set i l)):=owns_takeL h hl
theorem owns_put {ρ:Ev} {i:Nat} (l:L) (h:ρ[i]?=some .un):(owns (ρ.set i l)).Perm (ownsL l++owns ρ):=by
 have hi:i < ρ.length:=(List.getElem?_eq_some_iff.mp h).1
 have pm:=owns_takeL (ρ:=ρ.set i l) (i:=i) (k:=l) (l:=.un) (by simp [hi]) rfl
 rw [List.set_set] at pm
 have e2:ρ.set i .un=ρ:=by
  have:=List.set_getElem_self (as:=ρ) (i:=i) hi
  have e3:ρ[i]=.un:=(List.getElem?_eq_some_iff.mp h).2
  rw [e3] at this; exact this
 rw [e2] at pm
 exact pm
theorem REnv.outL (E:REnv K Pr H σ ρ) {i:Nat} {k:L} {s:Option V} (h:ρ[i]?=some k) (hs:σ[i]?=some s):REnv K Pr H (s::σ) (k::ρ.set i .un):=by
 have pm:=owns_takeL (l:=.un) h rfl
 obtain ⟨s',hs',q⟩:=Paired.get2 E.sl h
 rw [hs] at hs'
 cases hs'
 refine ⟨E.sub,?_,fun b hb=>E.off b (pm.mem_iff.mpr (by rw [owns_cons] at hb; exact hb)),.cons q (Paired.set_r i E.sl fun _ _=>by simp only [Slot1])⟩
 rw [owns_cons]; exact pm.nodup_iff.mp E.nd
theorem REnv.out (E:REnv K Pr H σ ρ) {i:Nat} {a:Addr} {xs:List D} (h:ρ[i]?=some (.own a xs)):REnv K Pr H (some (.ref a)::σ) (.own a xs::ρ.set i .un):=by
 have pm:=owns_take (l:=.un) h rfl
 obtain ⟨s,hs,q⟩:=Paired.get2 E.sl h
 refine ⟨E.sub,?_,fun b hb=>E.off b (pm.mem_iff.mpr (by rw [owns_cons_own] at hb; exact hb)),.cons ?_ (Paired.set_r i E.sl fun _ _=>by simp only [Slot1])⟩
 ·
  rw [owns_cons_own]; exact pm.nodup_iff.mp E.nd
 ·
  obtain ⟨_,r⟩:=q
  exact ⟨rfl,r⟩
theorem REnv.back {v:Option V} {l:L} (E:REnv K Pr H (v::σ) (l::ρ)) {i:Nat} (h:ρ[i]?=some .un) (hs:σ[i]?=some v):REnv K Pr H σ (ρ.set i l):=by
 have sl:=E.sl
 cases sl with
 | cons q t =>
  have e1:ρ.set i l=(ρ.set i l):=rfl
  refine ⟨E.sub,?_,fun b hb=>?_,Paired.set_r i t fun a e=>by rw [hs] at e; cases e; exact q⟩
  ·
   exact (owns_put l h).nodup_iff.mpr E.nd
  ·
   exact E.off b ((owns_put l h).mem_iff.mp hb)
theorem REnv.write (E:REnv K Pr H σ (.own a xs::ρ)) {vs:List V} {ys:List D} (r:Reps K H vs ys):REnv K Pr (upd H a (.lst vs)) σ (.own a ys::ρ):=by
 have pa:Pr a=none:=E.off a (by rw [owns_cons_own]; exact List.mem_cons_self)
 have nd:=E.nd
 rw [owns_cons_own] at nd
 obtain ⟨hn,nd'⟩:=List.nodup_cons.mp nd
 obtain ⟨us,ha,mu⟩:=E.at_own (a:=a) (by rw [owns_cons_own]; exact List.mem_cons_self)
 have p:Pres H (upd H a (.lst vs)):=fun b u pu e=>by
  rw [upd_ne]; exact e
  rintro rfl
  rw [ha] at e; cases e; exact mu.no pu
 refine ⟨fun b u e=>?_,nd,fun b hb=>E.off b hb,?_⟩
 ·
  rw [upd_ne]; exact E.sub b u e
  rintro rfl
  rw [pa] at e; cases e
 ·
  have sl:=E.sl
  cases sl with
  | cons q t =>
   obtain ⟨e,_⟩:=q
   refine .cons ⟨e,vs,upd_same,r.pres p⟩ (Paired.impMem t fun l hl s z=>z.pres p l fun b hbm=>?_)
   rw [upd_ne]
   rintro rfl
   exact hn (mem_owns.mpr ⟨l,hl,hbm⟩)
end
end L2
namespace L2
open PySem PySem.Spec PyProof.Rows
abbrev W (α:Type):=Ev→(α→Ev→Prop)→Prop
inductive Fl where
 | nx | bk | ct | rt (r:L)
def EL (X:Cx) (pins:List (Addr×Obj)) (σ:St) (Pr:Hp) (post:L→Ev→Prop) (u:Value) (s':Shared):Prop :=
 ∃ v H' r ρ',Inv X pins σ H' s'∧RelV v u∧REnv X.K Pr H' (some v::σ) (r::ρ')∧post r ρ'
def PL (X:Cx) (e:Expr) (t:W L):Prop :=
 ∀ (pins:List (Addr×Obj)) (s:Shared) (σ:St) (H Pr:Hp) (ρ:Ev) (post:L→Ev→Prop),Inv X pins σ H s→REnv X.K Pr H σ ρ→t ρ post→wpAny (model X.prog X.w) X.A (eval e X.env) (EL X pins σ Pr post) X.xe s
def EB (X:Cx) (pins:List (Addr×Obj)) (σ:St) (Pr:Hp) (post:Bool→Ev→Prop) (b:Bool) (s':Shared):Prop :=
 ∃ H' ρ',Inv X pins σ H' s'∧REnv X.K Pr H' σ ρ'∧post b ρ'
def PB (X:Cx) (e:Expr) (t:W Bool):Prop :=
 ∀ (pins:List (Addr×Obj)) (s:Shared) (σ:St) (H Pr:Hp) (ρ:Ev) (post:Bool→Ev→Prop),Inv X pins σ H s→REnv X.K Pr H σ ρ→t ρ post→wpAny (model X.prog X.w) X.A (isTrue e X.env (eval e X.env)) (EB X pins σ Pr post) X.xe s
def EA (X:Cx) (pins:List (Addr×Obj)) (σ:St) (Pr:Hp) (bs:List (Option Nat)) (post:List L→Ev→Prop) (us:List Value) (s':Shared):Prop :=
 ∃ vs H' ls ρ',Inv X pins σ H' s'∧Vals vs us∧vs.length=ls.length∧vs.length=bs.length∧REnv X.K Pr H' (vs.map some++σ) (ls++ρ')∧(∀ (k i:Nat),bs[k]?=some (some i)→ls[k]?=some L.un∧∃ v,vs[k]?=some v∧σ[i]?=some (some v))∧post ls ρ'
def PAL (X:Cx) (es:List Expr) (bs:List (Option Nat)) (t:W (List L)):Prop :=
 ∀ (pos:Pos) (pins:List (Addr×Obj)) (s:Shared) (σ:St) (H Pr:Hp) (ρ:Ev) (post:List L→Ev→Prop),Inv X pins σ H s→REnv X.K Pr H σ ρ→t ρ post →
  wpAny (model X.prog X.w) X.A (spliced (backTo pos (starEach es X.env))) (EA X pins σ Pr bs post) X.xe s
def SM (X:Cx) (pins:List (Addr×Obj)) (Pr:Hp) (post:Fl→Ev→Prop) (f:Flow) (s':Shared):Prop :=
 match f with
 | .next=>∃ σ' H' ρ',Inv X pins σ' H' s'∧REnv X.K Pr H' σ' ρ'∧post .nx ρ'
 | .brk=>∃ σ' H' ρ',Inv X pins σ' H' s'∧REnv X.K Pr H' σ' ρ'∧post .bk ρ'
 | .cont=>∃ σ' H' ρ',Inv X pins σ' H' s'∧REnv X.K Pr H' σ' ρ'∧post .ct ρ'
 | .ret u=>∃ v σ' H' r ρ' τ,Inv X pins σ' H' s'∧RelV v u∧REnv X.K Pr H' (some v::τ) (r::ρ')∧post (.rt r) ρ'
def PM (X:Cx) (st:Stmt) (t:W Fl):Prop :=
 ∀ (pins:List (Addr×Obj)) (s:Shared) (σ:St) (H Pr:Hp) (ρ:Ev) (post:Fl→Ev→Prop),Inv X pins σ H s→REnv X.K Pr H σ ρ→t ρ post→wpAny (model X.prog X.w) X.A (exec st X.env) (SM X pins Pr post) X.xe s
def PMs (X:Cx) (st:List Stmt) (t:W Fl):Prop :=
 ∀ (pins:List (Addr×Obj)) (s:Shared) (σ:St) (H Pr:Hp) (ρ:Ev) (post:Fl→Ev→Prop),Inv X pins σ H s→REnv X.K Pr H σ ρ→t ρ post→wpAny (model X.prog X.w) X.A (execs st X.env) (SM X pins Pr post) X.xe s
section
variable {X:Cx} {e a b c:Expr} {es:List Expr} {pos:Pos} {ta tb tc:W L} {tA tB:W Bool}
theorem PL.of {t:TE} {u:W L} (h:PE X e t) (q:∀ σ H Pr ρ post,REnv X.K Pr H σ ρ→u ρ post→t σ H fun v H'=>∃ r ρ',REnv X.K Pr H' (some v::σ) (r::ρ')∧post r ρ'):PL X e u :=
 fun pins s σ H Pr ρ post I E hu=>thn (h pins s σ H _ I (q σ H Pr ρ post E hu)) fun u s1 ⟨v,H1,I1,r1,r,ρ',E1,p⟩=>⟨v,H1,r,ρ',I1,r1,E1,p⟩
mutual
def eraseL:L→Option D
 | .un=>none
 | .d x=>some x
 | .own _ xs=>some (.lst xs)
 | .bx none ls=>(eraseLs ls).map .tup
 | .bx (some _) ls=>(eraseLs ls).map .lst
 | .dic _ _=>none
def eraseLs:List L→Option (List D)
 | []=>some []
 | l::ls=>match eraseL l,eraseLs ls with
  | some x,some xs=>some (x::xs)
  | _,_=>none
end
def isSome':Option D→(D→Prop)→Prop
 | some x,k=>k x
 | none,_=>False
theorem isSome'_is {o:Option D} {k:D→Prop} (h:isSome' o k):∃ x,o=some x∧k x:=by
 cases o with
 | some x=>exact ⟨x,rfl,h⟩
 | none=>exact h.elim
def toDB (a:Option Addr) (ls:List L) (k:D→Prop):Prop:=isSome' (eraseL (.bx a ls)) k
def toD:L→(D→Prop)→Prop
 | .un,_=>False
 | .d x,k=>k x
 | .own _ xs,k=>k (.lst xs)
 | .bx a ls,k=>toDB a ls k
 | .dic _ _,_=>False
theorem toDB_is {a:Option Addr} {ls:List L} {k:D→Prop} (h:toDB a ls k):∃ x,eraseL (.bx a ls)=some x∧k x:=isSome'_is h
def eraK (ls:List L) (k:List D→Prop):Prop:=∃ xs,eraseLs ls=some xs∧k xs
theorem toDB_t (ls:List L) (k:D→Prop):toDB none ls k=eraK ls fun xs=>k (.tup xs):=by
 unfold toDB eraK
 simp only [eraseL]
 cases eraseLs ls with
 | none=>simp [isSome']
 | some xs=>simp [isSome']
theorem toDB_o (a:Addr) (ls:List L) (k:D→Prop):toDB (some a) ls k=eraK ls fun xs=>k (.lst xs):=by
 unfold toDB eraK
 simp only [eraseL]
 cases eraseLs ls with
 | none=>simp [isSome']
 | some xs=>simp [isSome']
theorem eraK_nil (k:List D→Prop):eraK [] k=k []:=by
 unfold eraK
 simp [eraseLs]
theorem toD_era (l:L) (k:D→Prop):toD l k=∃ x,eraseL l=some x∧k x:=by
 cases l with
 | un=>simp [toD,eraseL]
 | d x=>simp [toD,eraseL]
 | own a xs=>simp [toD,eraseL]
 | bx a ls =>
  show isSome' _ k=_
  cases eraseL (.bx a ls) with
  | none=>simp [isSome']
  | some x=>simp [isSome']
 | dic a kvs=>simp [toD,eraseL]
theorem eraK_cons (l:L) (ls:List L) (k:List D→Prop):eraK (l::ls) k=toD l fun x=>eraK ls fun xs=>k (x::xs):=by
 rw [toD_era]
 unfold eraK
 simp only [eraseLs]
 cases eraseL l with
 | none=>simp
 | some x =>
  cases eraseLs ls with
  | none=>simp
  | some xs=>simp
theorem slots_paired {K:PySem.W.Frag} {H:Hp}:∀ {vs:List V} {ls:List L},Slots K H vs ls↔Paired (Slot1 K H) (vs.map some) ls
 | [],[]=>⟨fun _=>.nil,fun _=>by simp only [Slots]⟩
 | v::vs,l::ls=>by
  simp only [Slots,List.map_cons]
  constructor
  ·
   rintro ⟨w,us,e,h1,h2⟩
   cases e
   exact .cons h1 (slots_paired.mp h2)
  ·
   intro h
   cases h with
   | cons q t=>exact ⟨v,vs,rfl,q,slots_paired.mpr t⟩
 | [],l::ls=>by
  simp only [Slots,List.map_nil]
  constructor
  ·
   rintro ⟨w,us,e,_⟩; cases e
  ·
   intro h; cases h
 | v::vs,[]=>by
  simp only [Slots,List.map_cons]
  constructor
  ·
   intro h; cases h
  ·
   intro h; cases h
theorem reps_at {K:PySem.W.Frag} {H:Hp}:∀ {vs:List V} {xs:List D},Paired (Slot1 K H) (vs.map some) (xs.map .d)→Reps K H vs xs
 | [],[],_=>.nil
 | v::vs,x::xs,h=>by
  simp only [List.map_cons] at h
  cases h with
  | cons q t =>
   simp only [Slot1] at q
   obtain ⟨w,e,r⟩:=q
   cases e
   exact .cons r (reps_at t)
 | [],_::_,h=>by simp only [List.map_cons,List.map_nil] at h; cases h
 | _::_,[],h=>by simp only [List.map_cons,List.map_nil] at h; cases h
theorem Slots.len {K:PySem.W.Frag} {H:Hp} {vs:List V} {ls:List L} (h:Slots K H vs ls):vs.length=ls.length:=by
 have:=Paired.length (slots_paired.mp h)
 simpa using this
theorem eraseLs_len:∀ {ls:List L} {xs:List D},eraseLs ls=some xs→xs.length=ls.length
 | [],_,h=>by simp [eraseLs] at h; subst h; rfl
 | l::ls,xs,h=>by
  simp only [eraseLs] at h
  split at h
  ·
   rename_i x ys h1 h2
   cases h
   simp [eraseLs_len h2]
  ·
   cases h
theorem REnv.openT {K:PySem.W.Frag} {Pr H:Hp} {σ:St} {ρ:Ev} {v:Option V} {ls:List L} (E:REnv K Pr H (v::σ) (.bx none ls::ρ)):∃ a vs,v=some (.ref a)∧SqT K H a vs∧vs.length=ls.length∧REnv K Pr H (vs.map some++σ) (ls++ρ):=by
 have sl:=E.sl
 cases sl with
 | cons q t =>
  simp only [Slot1] at q
  obtain ⟨a,vs,e,h,r⟩:=q
  have ow:owns (.bx none ls::ρ)=owns (ls++ρ):=by
   rw [owns_cons,owns_append]
   simp only [ownsL,Option.toList,List.nil_append,ownsLs_eq]
  exact ⟨a,vs,e,h,r.len,E.sub,by rw [← ow]; exact E.nd,fun b hb=>E.off b (by rw [ow]; exact hb),Paired.app (slots_paired.mp r) t⟩
theorem REnv.openO {K:PySem.W.Frag} {Pr H:Hp} {σ:St} {ρ:Ev} {v:Option V} {a:Addr} {ls:List L} (E:REnv K Pr H (v::σ) (.bx (some a) ls::ρ)):∃ vs,v=some (.ref a)∧H a=some (.lst vs)∧vs.length=ls.length∧a∉owns (ls++ρ)∧Pr a=none∧REnv K Pr H (vs.map some++σ) (ls++ρ):=by
 have sl:=E.sl
 cases sl with
 | cons q t =>
  simp only [Slot1] at q
  obtain ⟨e,vs,h,r⟩:=q
  have ow:owns (.bx (some a) ls::ρ)=a::owns (ls++ρ):=by
   rw [owns_cons,owns_append]
   simp only [ownsL,Option.toList,List.cons_append,List.nil_append,ownsLs_eq]
  have nd:=E.nd
  rw [ow] at nd
  obtain ⟨n1,n2⟩:=List.nodup_cons.mp nd
  exact ⟨vs,e,h,r.len,n1,E.off a (by rw [ow]; exact List.mem_cons_self),E.sub,n2,fun b hb=>E.off b (by rw [ow]; exact List.mem_cons_of_mem _ hb),Paired.app (slots_paired.mp r) t⟩
def Frozen (H H':Hp) (S:List Addr):Prop:=Pres H H'∧(∀ b,b∉S→H' b=H b)∧∀ a∈S,∀ vs,H a=some (.lst vs)→∃ o,H' a=some (.frz o (.lst vs))
theorem Frozen.refl (H:Hp):Frozen H H []:=⟨fun _ _ _ e=>e,fun _ _=>rfl,fun _ h=>by simp at h⟩
mutual
theorem frzL:∀ (l:L) {pins:List (Addr×Obj)} {σ0:St} {s:Shared} {Pr H:Hp} {σ:St} {ρ:Ev} {v:Option V} {x:D},Inv X pins σ0 H s→REnv X.K Pr H (v::σ) (l::ρ)→eraseL l=some x→∃ H',Inv X pins σ0 H' s∧REnv X.K Pr H' (v::σ) (.d x::ρ)∧Frozen H H' (ownsL l)
 | .un,_,_,_,_,_,_,_,_,_,_,_,h=>by simp [eraseL] at h
 | .dic _ _,_,_,_,_,_,_,_,_,_,_,_,h=>by simp [eraseL] at h
 | .d y,_,_,_,_,_,_,_,_,_,I,E,h=>by
  simp only [eraseL,Option.some.injEq] at h
  subst h
  exact ⟨_,I,E,Frozen.refl _⟩
 | .own a xs,_,_,_,_,H,σ,ρ,v,_,I,E,h=>by
  simp only [eraseL,Option.some.injEq] at h
  subst h
  have sl:=E.sl
  cases sl with
  | cons q t =>
   simp only [Slot1] at q
   obtain ⟨e0,vs,ha,r⟩:=q
   obtain ⟨o,I'⟩:=I.freezeL ha
   refine ⟨_,I',E.freeze ha o,fun b u pu eb=>?_,fun b hb=>?_,fun b hb vs' eb=>?_⟩
   ·
    rw [upd_ne]; exact eb
    rintro rfl
    rw [ha] at eb; cases eb; exact pu
   ·
    rw [upd_ne]
    rintro rfl
    exact hb (by simp [ownsL])
   ·
    have e:b=a:=by simpa [ownsL] using hb
    subst e
    rw [ha] at eb; cases eb
    exact ⟨o,upd_same⟩
 | .bx none ls,_,_,_,Pr,H,σ,ρ,v,x,I,E,h=>by
  simp only [eraseL,Option.map_eq_some_iff] at h
  obtain ⟨xs,h,rfl⟩:=h
  obtain ⟨a,vs,rfl,ha,hl,E1⟩:=E.openT
  obtain ⟨H',I',E',F⟩:=frzLs ls hl I E1 h
  have hxl:=eraseLs_len h
  obtain ⟨s1,s2⟩:=Paired.unapp (by simp [hl,hxl]) E'.sl
  refine ⟨H',I',(E'.drop (by simp [hl,hxl])).cons_d (.tup (ha.pres F.1) (reps_at s1)),F.1,fun b hb=>F.2.1 b ?_,fun b hb=>F.2.2 b ?_⟩
  ·
   simpa [ownsL,ownsLs_eq] using hb
  ·
   simpa [ownsL,ownsLs_eq] using hb
 | .bx (some a) ls,_,_,_,Pr,H,σ,ρ,v,x,I,E,h=>by
  simp only [eraseL,Option.map_eq_some_iff] at h
  obtain ⟨xs,h,rfl⟩:=h
  obtain ⟨vs,rfl,ha,hl,hn,hp,E1⟩:=E.openO
  obtain ⟨H',I',E',F⟩:=frzLs ls hl I E1 h
  have hxl:=eraseLs_len h
  have hal:a∉owns ls:=fun z=>hn (by rw [owns_append]; exact List.mem_append_left _ z)
  have haρ:a∉owns ρ:=fun z=>hn (by rw [owns_append]; exact List.mem_append_right _ z)
  have ha':H' a=some (.lst vs):=(F.2.1 a hal).trans ha
  obtain ⟨s1,s2⟩:=Paired.unapp (by simp [hl,hxl]) E'.sl
  have E2:=E'.drop (by simp [hl,hxl])
  have E3:REnv X.K Pr H' (some (.ref a)::σ) (.own a xs::ρ):=by
   refine ⟨E2.sub,?_,fun b hb=>?_,.cons ?_ E2.sl⟩
   ·
    rw [owns_cons_own]; exact List.nodup_cons.mpr ⟨haρ,E2.nd⟩
   ·
    rw [owns_cons_own] at hb
    rcases List.mem_cons.mp hb with z | z
    ·
     rw [z]; exact hp
    ·
     exact E2.off b z
   ·
    unfold Slot1
    exact ⟨rfl,vs,ha',reps_at s1⟩
  obtain ⟨o,I2⟩:=I'.freezeL ha'
  refine ⟨_,I2,E3.freeze ha' o,fun b u pu e=>?_,fun b hb=>?_,fun b hb vs' eb=>?_⟩
  ·
   rw [upd_ne]; exact F.1 b u pu e
   rintro rfl
   rw [ha] at e; cases e; exact pu
  ·
   have hb':b≠a∧b∉owns ls:=by simpa [ownsL,ownsLs_eq,not_or] using hb
   rw [upd_ne hb'.1]
   exact F.2.1 b hb'.2
  ·
   by_cases hba:b=a
   ·
    subst hba
    rw [ha] at eb; cases eb
    exact ⟨o,upd_same⟩
   ·
    have hb':b∈owns ls:=by
     rcases (by simpa [ownsL,ownsLs_eq] using hb:b=a∨b∈owns ls) with z | z
     ·
      exact absurd z hba
     ·
      exact z
    rw [upd_ne hba]
    exact F.2.2 b hb' vs' eb
theorem frzLs:∀ (ls:List L) {pins:List (Addr×Obj)} {σ0:St} {s:Shared} {Pr H:Hp} {σ:St} {ρ:Ev} {vs:List V} {xs:List D},vs.length=ls.length→Inv X pins σ0 H s→REnv X.K Pr H (vs.map some++σ) (ls++ρ)→eraseLs ls=some xs→∃ H',Inv X pins σ0 H' s∧REnv X.K Pr H' (vs.map some++σ) (xs.map .d++ρ)∧Frozen H H' (owns ls)
 | [],_,_,_,_,_,_,_,vs,xs,hl,I,E,h=>by
  simp only [eraseLs,Option.some.injEq] at h
  subst h
  cases vs with
  | nil=>exact ⟨_,I,E,Frozen.refl _⟩
  | cons _ _=>simp at hl
 | l::ls,_,_,_,Pr,H,σ,ρ,vs,xs,hl,I,E,h=>by
  simp only [eraseLs] at h
  split at h
  rotate_left
  ·
   cases h
  rename_i x ys h1 h2
  cases h
  cases vs with
  | nil=>simp at hl
  | cons v vs =>
   have hl':vs.length=ls.length:=by simpa using hl
   obtain ⟨H1,I1,E1,F1⟩:=frzL l I E h1
   have E2:REnv X.K (butOwn H1 (ls++ρ)) H1 (vs.map some++σ) (ls++ρ):=(E1.drop (τ:=[some v]) (lam:=[.d x]) rfl).wide
   obtain ⟨H2,I2,E3,F2⟩:=frzLs ls hl' I1 E2 h2
   have hyl:=eraseLs_len h2
   have E4:REnv X.K Pr H2 (some v::(vs.map some++σ)) (.d x::(ys.map .d++ρ)):=by
    have z:=REnv.step (τ:=[some v]) (lam:=[.d x]) (w:=[]) (μ:=[]) (σ':=vs.map some++σ) (ρ':=ys.map .d++ρ) E1 rfl E3 rfl
    exact z
   refine ⟨H2,I2,E4,fun b u pu e=>F2.1 b u pu (F1.1 b u pu e),fun b hb=>?_,fun b hb vs' eb=>?_⟩
   ·
    rw [owns_cons] at hb
    rw [F2.2.1 b (fun z=>hb (List.mem_append_right _ z)),F1.2.1 b (fun z=>hb (List.mem_append_left _ z))]
   ·
    rw [owns_cons] at hb
    rcases List.mem_append.mp hb with z | z
    ·
     obtain ⟨o,eo⟩:=F1.2.2 b z vs' eb
     exact ⟨o,F2.1 b _ True.intro eo⟩
    ·
     have hn:b∉ownsL l:=fun z'=>by
      have nd:=E.nd
      rw [List.cons_append,owns_cons,owns_append] at nd
      exact (List.nodup_append.mp nd).2.2 b z' b (List.mem_append_left _ z) rfl
     exact F2.2.2 b z vs' ((F1.2.1 b hn).trans eb)
end
theorem EL.frz {pins:List (Addr×Obj)} {σ:St} {Pr:Hp} {post:D→Ev→Prop} {u:Value} {s':Shared} (h:EL X pins σ Pr (fun r ρ=>toD r fun x=>post x ρ) u s') :
  ∃ v H' x ρ',Inv X pins σ H' s'∧RelV v u∧REnv X.K Pr H' (some v::σ) (.d x::ρ')∧post x ρ':=by
 obtain ⟨v,H',r,ρ',I,rv,E,p⟩:=h
 cases r with
 | un=>exact p.elim
 | d x=>exact ⟨v,H',x,ρ',I,rv,E,p⟩
 | own a xs =>
  obtain ⟨H2,I2,E2,_⟩:=frzL (.own a xs) I E rfl
  exact ⟨v,H2,.lst xs,ρ',I2,rv,E2,p⟩
 | bx a ls =>
  obtain ⟨x,ex,p⟩:=toDB_is p
  obtain ⟨H2,I2,E2,_⟩:=frzL (.bx a ls) I E ex
  exact ⟨v,H2,x,ρ',I2,rv,E2,p⟩
 | dic a kvs=>exact p.elim
def wFrz (t:W L):W L:=fun ρ post=>t ρ fun r ρ1=>toD r fun x=>post (.d x) ρ1
theorem pl_frz {t:W L} (h:PL X e t):PL X e (wFrz t):=fun pins s σ H Pr ρ post I E ht =>
 thn (h pins s σ H Pr ρ _ I E ht) fun u s1 q=>by
  obtain ⟨v,H',x,ρ',I',rv,E',p⟩:=EL.frz (post:=fun x ρ=>post (.d x) ρ) q
  exact ⟨v,H',.d x,ρ',I',rv,E',p⟩
theorem REnv.head_d {K:PySem.W.Frag} {Pr H:Hp} {v:Option V} {σ:St} {x:D} {ρ:Ev} (E:REnv K Pr H (v::σ) (.d x::ρ)):∃ w,v=some w∧Rep K H w x:=by
 have sl:=E.sl
 cases sl with
 | cons q t=>exact q
theorem REnv.tail {K:PySem.W.Frag} {Pr H:Hp} {v:Option V} {σ:St} {l:L} {ρ:Ev} (E:REnv K Pr H (v::σ) (l::ρ)):REnv K Pr H σ ρ:=REnv.drop (τ:=[v]) (lam:=[l]) E rfl
theorem two {pins:List (Addr×Obj)} {s:Shared} {σ:St} {H Pr:Hp} {ρ:Ev} {R:D→D→Ev→Prop} (ha:PL X a ta) (hb:PL X b tb) (I:Inv X pins σ H s) (E:REnv X.K Pr H σ ρ)
  (h:ta ρ fun x ρ1=>toD x fun dx=>tb ρ1 fun y ρ2=>toD y fun dy=>R dx dy ρ2) {α:Type} {Q:α→Shared→Prop} {f:Value→Value→Sem α}
  (hf:∀ v u s2 x y H2 dx dy ρ2,Inv X pins σ H2 s2→RelV x v→RelV y u→REnv X.K Pr H2 (some y::some x::σ) (.d dy::.d dx::ρ2)→Rep X.K H2 x dx→Rep X.K H2 y dy→R dx dy ρ2→wpAny (model X.prog X.w) X.A (f v u) Q X.xe s2) :
  wpAny (model X.prog X.w) X.A (eval a X.env) (fun v s₁=>wpAny (model X.prog X.w) X.A (eval b X.env) (fun u s₂=>wpAny (model X.prog X.w) X.A (f v u) Q X.xe s₂) X.xe s₁) X.xe s:=by
 refine thn (ha pins s σ H Pr ρ _ I E h) fun v s1 q=>?_
 obtain ⟨x,H1,dx,ρ1,I1,r1,E1,q1⟩:=EL.frz (post:=fun dx ρ1=>tb ρ1 fun y ρ2=>toD y fun dy=>R dx dy ρ2) q
 refine thn (hb pins s1 σ H1 _ ρ1 _ I1 E1.tail.wide q1) fun u s2 q=>?_
 obtain ⟨y,H2,dy,ρ2,I2,r2,E2,q2⟩:=EL.frz (post:=fun dy ρ2=>R dx dy ρ2) q
 have E3:REnv X.K Pr H2 (some y::some x::σ) (.d dy::.d dx::ρ2):=REnv.step (τ:=[some x]) (lam:=[.d dx]) (w:=[some y]) (μ:=[.d dy]) E1 rfl E2 rfl
 obtain ⟨_,e1,p1⟩:=E3.head_d
 obtain ⟨_,e2,p2⟩:=E3.tail.head_d
 cases e1
 cases e2
 exact hf v u s2 x y H2 dx dy ρ2 I2 r1 r2 E3 p2 p1 q2
abbrev Op2:=D→D→(L→Prop)→Prop
def OpD (X:Cx) (f:Value→Value→Sem Value) (op:Op2):Prop :=
 ∀ (pins:List (Addr×Obj)) (s:Shared) (σ:St) (H Pr:Hp) (ρ:Ev) (x y:V) (v u:Value) (dx dy:D) (post:L→Prop),Inv X pins σ H s→RelV x v→RelV y u→REnv X.K Pr H σ ρ→Rep X.K H x dx→Rep X.K H y dy→op dx dy post →
  wpAny (model X.prog X.w) X.A (f v u) (fun w s'=>∃ z H' r,Inv X pins σ H' s'∧RelV z w∧REnv X.K Pr H' (some z::σ) (r::ρ)∧post r) X.xe s
theorem OpD.of {f:Value→Value→Sem Value} {r:R2} {op:Op2} (h:OpR X f r) (q:∀ σ H Pr ρ x y dx dy post,REnv X.K Pr H σ ρ→Rep X.K H x dx→Rep X.K H y dy→op dx dy post→r x y H fun z H'=>∃ r,REnv X.K Pr H' (some z::σ) (r::ρ)∧post r):OpD X f op :=
 fun pins s σ H Pr ρ x y v u dx dy post I rx ry E px py ho=>thn (h pins s σ H x y v u _ I rx ry (q σ H Pr ρ x y dx dy post E px py ho)) fun w s' ⟨z,H',I',rz,r,E',p⟩=>⟨z,H',r,I',rz,E',p⟩
theorem OpD.imp {f:Value→Value→Sem Value} {o1 o2:Op2} (h1:OpD X f o1) (h:∀ x y p,o2 x y p→o1 x y p):OpD X f o2 :=
 fun pins s σ H Pr ρ x y v u dx dy post I rx ry E px py ho=>h1 pins s σ H Pr ρ x y v u dx dy post I rx ry E px py (h _ _ _ ho)
def wBin (op:Op2) (ta tb:W L):W L:=fun ρ post=>ta ρ fun x ρ1=>toD x fun dx=>tb ρ1 fun y ρ2=>toD y fun dy=>op dx dy fun r=>post r ρ2
theorem pl_bin {op:Operator} {o:Op2} (ho:OpD X (binaryOp op) o) (ha:PL X a ta) (hb:PL X b tb):PL X (.BinOp a op b pos) (wBin o ta tb):=fun pins s σ H Pr ρ post I E h =>
 wpAny_BinOp (two (R:=fun dx dy ρ2=>o dx dy fun r=>post r ρ2) ha hb I E h fun v u s2 x y H2 dx dy ρ2 I2 r1 r2 E2 p1 p2 q =>
  thn (ho pins s2 σ H2 Pr ρ2 x y v u dx dy _ I2 r1 r2 E2.tail.tail p1 p2 q) fun w s3 ⟨z,H3,r,I3,rz,E3,p⟩=>⟨z,H3,r,ρ2,I3,rz,E3,p⟩)
theorem pl_cmp {op:CmpOp} {o:Op2} (ho:OpD X (compareOp op) o) (ha:PL X a ta) (hb:PL X b tb) (hm:behindInMarks op b=false):PL X (.Compare a [op] [b] pos) (wBin o ta tb):=fun pins s σ H Pr ρ post I E h =>
 wpAny_Compare1 (two (R:=fun dx dy ρ2=>o dx dy fun r=>post r ρ2) ha hb I E h fun v u s2 x y H2 dx dy ρ2 I2 r1 r2 E2 p1 p2 q =>
  thn (ho pins s2 σ H2 Pr ρ2 x y v u dx dy _ I2 r1 r2 E2.tail.tail p1 p2 q) fun w s3 ⟨z,H3,r,I3,rz,E3,p⟩=>⟨z,H3,r,ρ2,I3,rz,E3,p⟩) hm
def wC (x:D):W L:=fun ρ post=>post (.d x) ρ
theorem pl_int {i j pos}:PL X (.Constant (.int i) j pos) (wC (.int i)):=PL.of pe_int fun σ H Pr ρ post E h=>⟨_,_,E.cons_d (.int i),h⟩
theorem pl_bl {b j pos}:PL X (.Constant (.bool b) j pos) (wC (.bl b)):=PL.of pe_bl fun σ H Pr ρ post E h=>⟨_,_,E.cons_d (.bl b),h⟩
theorem pl_non {j pos}:PL X (.Constant .none j pos) (wC .non):=PL.of pe_non fun σ H Pr ρ post E h=>⟨_,_,E.cons_d .non,h⟩
theorem pl_str {x j pos}:PL X (.Constant (.str x) j pos) (wC (.str x)):=PL.of pe_str fun σ H Pr ρ post E h=>⟨_,_,E.cons_d (.str x),h⟩
def varW (o:Option L) (i:Nat) (ρ:Ev) (post:L→Ev→Prop):Prop:=match o with
 | some (.d x)=>post (.d x) ρ
 | some (.own _ xs)=>post (.d (.lst xs)) (ρ.set i (.d (.lst xs)))
 | some (.bx a ls)=>toDB a ls fun x=>post (.d x) (ρ.set i (.d x))
 | _=>False
def wVar (i:Nat):W L:=fun ρ post=>varW ρ[i]? i ρ post
theorem varW_d (x:D) (i:Nat) (ρ:Ev) (post:L→Ev→Prop):varW (some (.d x)) i ρ post=post (.d x) ρ:=(rfl)
theorem varW_own (a:Addr) (xs:List D) (i:Nat) (ρ:Ev) (post:L→Ev→Prop):varW (some (.own a xs)) i ρ post=post (.d (.lst xs)) (ρ.set i (.d (.lst xs))):=(rfl)
theorem varW_bx (a:Option Addr) (ls:List L) (i:Nat) (ρ:Ev) (post:L→Ev→Prop):varW (some (.bx a ls)) i ρ post=toDB a ls fun x=>post (.d x) (ρ.set i (.d x)):=(rfl)
theorem REnv.slot {K:PySem.W.Frag} {Pr H:Hp} {σ:St} {ρ:Ev} {i:Nat} {l:L} (E:REnv K Pr H σ ρ) (h:ρ[i]?=some l):∃ s,σ[i]?=some s∧Slot1 K H s l:=Paired.get2 E.sl h
theorem pl_var (i:Nat) {x:Str} {pos:Pos} (hN:X.N[i]?=some x:=by rfl) (hv:Vis X.env.scope x:=by first | exact Or.inl rfl | exact Or.inr (Or.inl rfl) | exact Or.inr (Or.inr rfl)) (hd:(x == ("__debug__" : Str))=false:=by decide)
  (hcd:(x == ("__classdict__" : Str))=false:=by decide):PL X (.Name x pos) (wVar i):=by
 intro pins s σ H Pr ρ post I E h
 unfold wVar varW at h
 cases q:ρ[i]? with
 | none=>rw [q] at h; exact h.elim
 | some l =>
  rw [q] at h
  obtain ⟨sv,hs,sl⟩:=E.slot q
  cases l with
  | un=>exact h.elim
  | dic a kvs=>exact h.elim
  | d y =>
   obtain ⟨v,rfl,r⟩:=sl
   exact thn (pe_var hN hv hd hcd pins s σ H (fun w H'=>w=v∧H'=H) I ⟨v,hs,rfl,rfl⟩) fun u s1 ⟨w,H1,I1,r1,e1,e2⟩=>by
    subst e1 e2
    exact ⟨w,H1,_,ρ,I1,r1,E.cons_d r,h⟩
  | own a xs =>
   obtain ⟨rfl,vs,ha,r⟩:=sl
   refine thn (pe_var hN hv hd hcd pins s σ H (fun w H'=>w=.ref a∧H'=H) I ⟨.ref a,hs,rfl,rfl⟩) fun u s1 ⟨w,H1,I1,r1,e1,e2⟩=>?_
   subst e1 e2
   obtain ⟨o,I2⟩:=I1.freezeL ha
   have E2:=(E.out q).freeze ha o
   have hi:i < ρ.length:=(List.getElem?_eq_some_iff.mp q).1
   have E3:=E2.back (i:=i) (by simp [hi]) hs
   rw [List.set_set] at E3
   obtain ⟨_,e,p⟩:=E2.head_d
   cases e
   exact ⟨_,_,_,_,I2,r1,E3.cons_d p,h⟩
  | bx a ls =>
   obtain ⟨y,ey,h⟩:=toDB_is h
   have hv':∃ b,sv=some (.ref b):=by
    cases a with
    | none=>simp only [Slot1] at sl; obtain ⟨b,_,e,_⟩:=sl; exact ⟨b,e⟩
    | some b=>simp only [Slot1] at sl; exact ⟨b,sl.1⟩
   obtain ⟨b,rfl⟩:=hv'
   refine thn (pe_var hN hv hd hcd pins s σ H (fun w H'=>w=.ref b∧H'=H) I ⟨.ref b,hs,rfl,rfl⟩) fun u s1 ⟨w,H1,I1,r1,e1,e2⟩=>?_
   subst e1 e2
   obtain ⟨H2,I2,E2,_⟩:=frzL (.bx a ls) I1 (E.outL q hs) ey
   have hi:i < ρ.length:=(List.getElem?_eq_some_iff.mp q).1
   have E3:=E2.back (i:=i) (by simp [hi]) hs
   rw [List.set_set] at E3
   obtain ⟨_,e,p⟩:=E2.head_d
   cases e
   exact ⟨_,_,_,_,I2,r1,E3.cons_d p,h⟩
def movW (o:Option L) (i:Nat) (ρ:Ev) (post:L→Ev→Prop):Prop:=match o with
 | some (.d x)=>post (.d x) ρ
 | some (.own a xs)=>post (.own a xs) (ρ.set i .un)
 | some (.bx a ls)=>post (.bx a ls) (ρ.set i .un)
 | _=>False
def wMove (i:Nat):W L:=fun ρ post=>movW ρ[i]? i ρ post
theorem movW_d (x:D) (i:Nat) (ρ:Ev) (post:L→Ev→Prop):movW (some (.d x)) i ρ post=post (.d x) ρ:=(rfl)
theorem movW_own (a:Addr) (xs:List D) (i:Nat) (ρ:Ev) (post:L→Ev→Prop):movW (some (.own a xs)) i ρ post=post (.own a xs) (ρ.set i .un):=(rfl)
theorem movW_bx (a:Option Addr) (ls:List L) (i:Nat) (ρ:Ev) (post:L→Ev→Prop):movW (some (.bx a ls)) i ρ post=post (.bx a ls) (ρ.set i .un):=(rfl)
theorem pl_move (i:Nat) {x:Str} {pos:Pos} (hN:X.N[i]?=some x:=by rfl) (hv:Vis X.env.scope x:=by first | exact Or.inl rfl | exact Or.inr (Or.inl rfl) | exact Or.inr (Or.inr rfl)) (hd:(x == ("__debug__" : Str))=false:=by decide)
  (hcd:(x == ("__classdict__" : Str))=false:=by decide):PL X (.Name x pos) (wMove i):=by
 intro pins s σ H Pr ρ post I E h
 unfold wMove movW at h
 cases q:ρ[i]? with
 | none=>rw [q] at h; exact h.elim
 | some l =>
  rw [q] at h
  obtain ⟨sv,hs,sl⟩:=E.slot q
  cases l with
  | un=>exact h.elim
  | dic a kvs=>exact h.elim
  | d y =>
   obtain ⟨v,rfl,r⟩:=sl
   exact thn (pe_var hN hv hd hcd pins s σ H (fun w H'=>w=v∧H'=H) I ⟨v,hs,rfl,rfl⟩) fun u s1 ⟨w,H1,I1,r1,e1,e2⟩=>by
    subst e1 e2
    exact ⟨w,H1,_,ρ,I1,r1,E.cons_d r,h⟩
  | own a xs =>
   obtain ⟨rfl,vs,ha,r⟩:=sl
   refine thn (pe_var hN hv hd hcd pins s σ H (fun w H'=>w=.ref a∧H'=H) I ⟨.ref a,hs,rfl,rfl⟩) fun u s1 ⟨w,H1,I1,r1,e1,e2⟩=>?_
   subst e1 e2
   exact ⟨_,_,_,_,I1,r1,E.out q,h⟩
  | bx a ls =>
   have hv':∃ b,sv=some (.ref b):=by
    cases a with
    | none=>simp only [Slot1] at sl; obtain ⟨b,_,e,_⟩:=sl; exact ⟨b,e⟩
    | some b=>simp only [Slot1] at sl; exact ⟨b,sl.1⟩
   obtain ⟨b,rfl⟩:=hv'
   refine thn (pe_var hN hv hd hcd pins s σ H (fun w H'=>w=.ref b∧H'=H) I ⟨.ref b,hs,rfl,rfl⟩) fun u s1 ⟨w,H1,I1,r1,e1,e2⟩=>?_
   subst e1 e2
   exact ⟨_,_,_,_,I1,r1,E.outL q hs,h⟩
theorem pl_glob {x:Str} {v:V} {u:Value} {y:D} {pos:Pos} (hg:Gl X x) (hm:X.mg x=some u) (r:RelV v u) (hy:∀ H,Rep X.K H v y) (hd:(x == ("__debug__" : Str))=false:=by decide):PL X (.Name x pos) (wC y) :=
 PL.of (pe_glob hg hm r hd) fun σ H Pr ρ post E h=>⟨_,_,E.cons_d (hy H),h⟩
def isBl:L→(Bool→Prop)→Prop
 | .d (.bl b),k=>k b
 | _,_=>False
def wTest (t:W L):W Bool:=fun ρ post=>t ρ fun r ρ1=>isBl r fun b=>post b ρ1
theorem isBl_is {r:L} {k:Bool→Prop} (h:isBl r k):∃ b,r=.d (.bl b)∧k b:=by
 cases r with
 | d x=>cases x with
  | bl b=>exact ⟨b,rfl,h⟩
  | _=>exact h.elim
 | _=>exact h.elim
theorem pb_val {t:W L} (h:PL X e t) (he:∀ whole,isTrue e X.env whole=(do let v ← whole; standAt e.pos; holding [v] (truthy v)):=by intro _; rfl):PB X e (wTest t):=by
 intro pins s σ H Pr ρ post I E ht
 rw [he]
 refine wpAny_bind (thn (h pins s σ H Pr ρ _ I E ht) fun u s1 ⟨v,H1,r,ρ1,I1,rv,E1,p⟩=>wpAny_bind (wpAny_standAt (wpAny_holding ?_)))
 obtain ⟨b,rfl,p⟩:=isBl_is p
 obtain ⟨_,e1,p1⟩:=E1.head_d
 cases e1
 cases p1
 cases rv
 exact wpAny_truthy_bool ⟨H1,ρ1,I1,E1.tail,p⟩
end
end L2
namespace L2
open PySem PySem.Spec PyProof.Rows
section
variable {X:Cx} {e a b c:Expr} {es rest:List Expr} {pos:Pos} {ta tb tc:W L} {tA tB:W Bool}
def PBw (X:Cx) (e:Expr) (t:W Bool):Prop :=
 ∀ (whole:Sem Value) (pins:List (Addr×Obj)) (s:Shared) (σ:St) (H Pr:Hp) (ρ:Ev) (post:Bool→Ev→Prop),Inv X pins σ H s→REnv X.K Pr H σ ρ→t ρ post→wpAny (model X.prog X.w) X.A (isTrue e X.env whole) (EB X pins σ Pr post) X.xe s
theorem PBw.pb {t:W Bool} (h:PBw X e t):PB X e t:=h _
def wAnd (t u:W Bool):W Bool:=fun ρ post=>t ρ fun c ρ1=>if c=true then u ρ1 post else post false ρ1
def wOr (t u:W Bool):W Bool:=fun ρ post=>t ρ fun c ρ1=>if c=true then post true ρ1 else u ρ1 post
def wNot (t:W Bool):W Bool:=fun ρ post=>t ρ fun c ρ1=>post (!c) ρ1
theorem pbw_and1 (ha:PB X a tA):PBw X (.BoolOp .And [a] pos) tA:=by
 intro wh pins s σ H Pr ρ post I E h
 refine isTrue_and (thn (ha pins s σ H Pr ρ post I E h) fun c s1 e=>?_)
 cases c with
 | true=>exact isTrue_and_nil e
 | false=>exact e
theorem pbw_or1 (ha:PB X a tA):PBw X (.BoolOp .Or [a] pos) tA:=by
 intro wh pins s σ H Pr ρ post I E h
 refine isTrue_or (thn (ha pins s σ H Pr ρ post I E h) fun c s1 e=>?_)
 cases c with
 | false=>exact isTrue_or_nil e
 | true=>exact e
theorem pbw_and (ha:PB X a tA) (hb:PBw X (.BoolOp .And (b::rest) pos) tB):PBw X (.BoolOp .And (a::b::rest) pos) (wAnd tA tB):=by
 intro wh pins s σ H Pr ρ post I E h
 refine isTrue_and (thn (ha pins s σ H Pr ρ _ I E h) fun c s1 ⟨H1,ρ1,I1,E1,q1⟩=>?_)
 cases c with
 | true=>exact hb wh pins s1 σ H1 Pr ρ1 post I1 E1 q1
 | false=>exact ⟨H1,ρ1,I1,E1,q1⟩
theorem pbw_or (ha:PB X a tA) (hb:PBw X (.BoolOp .Or (b::rest) pos) tB):PBw X (.BoolOp .Or (a::b::rest) pos) (wOr tA tB):=by
 intro wh pins s σ H Pr ρ post I E h
 refine isTrue_or (thn (ha pins s σ H Pr ρ _ I E h) fun c s1 ⟨H1,ρ1,I1,E1,q1⟩=>?_)
 cases c with
 | true=>exact ⟨H1,ρ1,I1,E1,q1⟩
 | false=>exact hb wh pins s1 σ H1 Pr ρ1 post I1 E1 q1
theorem pb_not (ha:PB X a tA):PB X (.UnaryOp .Not a pos) (wNot tA):=by
 intro pins s σ H Pr ρ post I E h
 exact isTrue_not (ha pins s σ H Pr ρ (fun c ρ1=>post (!c) ρ1) I E h)
theorem pbc {op:CmpOp} {o:Op2} (ho:OpD X (compareOp op) o) (ha:PL X a ta) (hb:PL X b tb) (hm:behindInMarks op b=false):PB X (.Compare a [op] [b] pos) (wTest (wBin o ta tb)):=by
 intro pins s σ H Pr ρ post I E h
 refine wpAny_isTrue_Compare1 (two (R:=fun dx dy ρ2=>o dx dy fun r=>isBl r fun b=>post b ρ2) ha hb I E h fun v u s2 x y H2 dx dy ρ2 I2 r1 r2 E2 p1 p2 q=>?_) hm
 refine thn (ho pins s2 σ H2 Pr ρ2 x y v u dx dy _ I2 r1 r2 E2.tail.tail p1 p2 q) fun w s3 ⟨z,H3,r,I3,rz,E3,p⟩=>?_
 obtain ⟨b,rfl,p⟩:=isBl_is p
 obtain ⟨_,e1,p1⟩:=E3.head_d
 cases e1
 cases p1
 cases rz
 exact wpAny_truthy_bool ⟨H3,ρ2,I3,E3.tail,p⟩
def wAndV (ta tb:W L):W L:=fun ρ post=>ta ρ fun r ρ1=>isBl r fun c=>if c=true then tb ρ1 post else post (.d (.bl false)) ρ1
def wNotV (t:W Bool):W L:=fun ρ post=>t ρ fun c ρ1=>post (.d (.bl (!c))) ρ1
theorem pl_one {op} {t:W L} (h:PL X a t):PL X (.BoolOp op [a] pos) t:=fun pins s σ H Pr ρ post I E hw=>BoolOp_one (h pins s σ H Pr ρ post I E hw)
theorem EL.bl {pins:List (Addr×Obj)} {σ:St} {Pr:Hp} {post:Bool→Ev→Prop} {u:Value} {s':Shared} (h:EL X pins σ Pr (fun r ρ=>isBl r fun b=>post b ρ) u s') :
  ∃ H' b ρ',u=.bool b∧Inv X pins σ H' s'∧REnv X.K Pr H' σ ρ'∧post b ρ':=by
 obtain ⟨v,H',r,ρ',I,rv,E,p⟩:=h
 obtain ⟨b,rfl,p⟩:=isBl_is p
 obtain ⟨_,e1,p1⟩:=E.head_d
 cases e1
 cases p1
 cases rv
 exact ⟨H',b,ρ',rfl,I,E.tail,p⟩
theorem pl_and (ha:PL X a ta) (hb:PL X (.BoolOp .And (b::rest) pos) tb):PL X (.BoolOp .And (a::b::rest) pos) (wAndV ta tb):=by
 intro pins s σ H Pr ρ post I E h
 refine BoolOp_and (thn (ha pins s σ H Pr ρ _ I E h) fun v s1 q=>?_)
 obtain ⟨H1,c,ρ1,rfl,I1,E1,q1⟩:=EL.bl (post:=fun c ρ1=>if c=true then tb ρ1 post else post (.d (.bl false)) ρ1) q
 refine wpAny_truthy_bool ?_
 cases c with
 | true=>exact hb pins s1 σ H1 Pr ρ1 post I1 E1 q1
 | false=>exact ⟨.bl false,H1,_,ρ1,I1,rfl,E1.cons_d (.bl false),q1⟩
theorem pl_not (ha:PL X a ta):PL X (.UnaryOp .Not a pos) (wNotV (wTest ta)):=by
 intro pins s σ H Pr ρ post I E h
 refine UnaryOp_ (thn (ha pins s σ H Pr ρ _ I E h) fun v s1 q=>?_)
 obtain ⟨H1,c,ρ1,rfl,I1,E1,q1⟩:=EL.bl (post:=fun c ρ1=>post (.d (.bl (!c))) ρ1) q
 exact not_of (wpAny_truthy_bool ⟨.bl (!c),H1,_,ρ1,I1,rfl,E1.cons_d (.bl _),q1⟩)
def wUn (op:D→(L→Prop)→Prop) (t:W L):W L:=fun ρ post=>t ρ fun x ρ1=>toD x fun dx=>op dx fun r=>post r ρ1
def opNeg:D→(L→Prop)→Prop
 | .int i,k=>k (.d (.int (-i)))
 | _,_=>False
theorem pl_neg (ha:PL X a ta):PL X (.UnaryOp .USub a pos) (wUn opNeg ta):=by
 intro pins s σ H Pr ρ post I E h
 refine UnaryOp_ (thn (ha pins s σ H Pr ρ _ I E h) fun v s1 q=>?_)
 obtain ⟨x,H1,dx,ρ1,I1,r1,E1,q1⟩:=EL.frz (post:=fun dx ρ1=>opNeg dx fun r=>post r ρ1) q
 obtain ⟨_,e1,p1⟩:=E1.head_d
 cases e1
 cases p1 with
 | int i =>
  exact thn (un_neg pins s1 σ H1 _ v (fun w H'=>w=.int (-i)∧H'=H1) I1 r1 ⟨i,rfl,rfl,rfl⟩) fun u s2 ⟨w,H2,I2,r2,e1,e2⟩=>by
   subst e1 e2
   exact ⟨_,_,_,ρ1,I2,r2,E1.tail.cons_d (.int _),q1⟩
 | _=>exact q1.elim
variable {st:Stmt} {sts:List Stmt} {t u:W Fl}
def wNext:W Fl:=fun ρ post=>post .nx ρ
def wSeq (t u:W Fl):W Fl:=fun ρ post=>t ρ fun f ρ1=>match f with
 | .nx=>u ρ1 post
 | f=>post f ρ1
theorem pms_nil:PMs X [] wNext:=fun _ _ σ H Pr ρ post I E h=>wpAny_execs_nil ⟨σ,H,ρ,I,E,h⟩
theorem pms_cons (h1:PM X st t) (h2:PMs X sts u):PMs X (st::sts) (wSeq t u):=by
 intro pins s σ H Pr ρ post I E h
 refine wpAny_execs_cons (thn (h1 pins s σ H Pr ρ _ I E h) fun f s1 q=>?_)
 cases f with
 | next =>
  obtain ⟨σ',H',ρ',I',E',q⟩:=q
  exact h2 pins s1 σ' H' Pr ρ' post I' E' q
 | ret v=>exact q
 | brk=>exact q
 | cont=>exact q
theorem pms_one (h1:PM X st t):PMs X [st] t:=by
 intro pins s σ H Pr ρ post I E h
 refine wpAny_execs_cons (thn (h1 pins s σ H Pr ρ _ I E h) fun f s1 q=>?_)
 cases f with
 | next=>exact wpAny_execs_nil q
 | ret v=>exact q
 | brk=>exact q
 | cont=>exact q
def wDrop (t:W L):W Fl:=fun ρ post=>t ρ fun _ ρ1=>post .nx ρ1
theorem pm_expr {te:W L} (he:PL X e te) (hs:swapsWith e none pos.line X.env=pure false:=by rfl):PM X (.Expr e pos) (wDrop te):=by
 intro pins s σ H Pr ρ post I E h
 exact wpAny_Expr_any (thn (he pins s σ H Pr ρ _ I E h) fun v s1 ⟨x,H1,r,ρ1,I1,r1,E1,q1⟩=>⟨σ,H1,ρ1,I1,E1.tail,q1⟩) I.quiet hs
def wRet (t:W L):W Fl:=fun ρ post=>t ρ fun r ρ1=>post (.rt r) ρ1
theorem pm_ret {te:W L} (he:PL X e te):PM X (.Return (some e) pos) (wRet te):=by
 intro pins s σ H Pr ρ post I E h
 exact wpAny_Return_some (thn (he pins s σ H Pr ρ _ I E h) fun v s1 ⟨x,H1,r,ρ1,I1,r1,E1,q1⟩=>⟨x,σ,H1,r,ρ1,σ,I1,r1,E1,q1⟩)
def wIf (c:W Bool) (t u:W Fl):W Fl:=fun ρ post=>c ρ fun b ρ1=>if b=true then t ρ1 post else u ρ1 post
theorem pm_if {sa sb:List Stmt} (hc:PB X c tA) (ha:PMs X sa t) (hb:PMs X sb u):PM X (.If c sa sb pos) (wIf tA t u):=by
 intro pins s σ H Pr ρ post I E h
 refine wpAny_If (thn (hc pins s σ H Pr ρ _ I E h) fun d s1 ⟨H1,ρ1,I1,E1,q1⟩=>?_)
 cases d with
 | true=>exact ha pins s1 σ H1 Pr ρ1 post I1 E1 q1
 | false=>exact hb pins s1 σ H1 Pr ρ1 post I1 E1 q1
theorem REnv.forget {K:PySem.W.Frag} {Pr H:Hp} {σ:St} {ρ:Ev} (E:REnv K Pr H σ ρ) (i:Nat) (v:Option V):REnv K Pr H (σ.set i v) (ρ.set i .un):=by
 have hsub:(owns (ρ.set i .un)).Sublist (owns ρ):=by
  have:∀ (ρ:Ev) (i:Nat),(owns (ρ.set i .un)).Sublist (owns ρ):=by
   intro ρ
   induction ρ with
   | nil=>intro i; exact List.Sublist.refl _
   | cons l ρ ih =>
    intro i
    cases i with
    | zero =>
     show (owns ρ).Sublist (owns (l::ρ))
     rw [owns_cons]; exact List.sublist_append_right _ _
    | succ i =>
     show (owns (l::ρ.set i .un)).Sublist (owns (l::ρ))
     rw [owns_cons,owns_cons]
     exact (List.Sublist.refl _).append (ih i)
  exact this ρ i
 exact ⟨E.sub,E.nd.sublist hsub,fun a h=>E.off a (hsub.subset h),Paired.set2 True.intro i E.sl⟩
theorem REnv.store {K:PySem.W.Frag} {Pr H:Hp} {σ:St} {ρ:Ev} {v:Option V} {l:L} (E:REnv K Pr H (v::σ) (l::ρ)) {i:Nat} (hi:i < σ.length):REnv K Pr H (σ.set i v) (ρ.set i l):=by
 have E1:=E.forget (i+1) v
 have E2:REnv K Pr H (v::σ.set i v) (l::ρ.set i .un):=E1
 have hl:=E.tail.len
 have E3:=E2.back (i:=i) (by rw [List.getElem?_set_self (by omega)]) (by rw [List.getElem?_set_self hi])
 rw [List.set_set] at E3
 exact E3
def wSet (i:Nat) (t:W L):W Fl:=fun ρ post=>t ρ fun r ρ1=>post .nx (ρ1.set i r)
theorem pm_set {i:Nat} {x:Str} {te:W L} {pos':Pos} (hN:X.N.Nodup) (hi:X.N[i]?=some x) (hx:Loc X.env.scope x) (he:PL X e te) (hs:swapsWith e (some (.Name x pos')) pos.line X.env=pure false:=by rfl) (hf:X.fn x=true∨X.env.scope.names.lookup x=some .local:=by first | exact .inl rfl | exact .inr rfl | assumption) :
  PM X (.Assign [.Name x pos'] e pos) (wSet i te):=by
 intro pins s σ H Pr ρ post I E h
 refine wpAny_Assign_Name (thn (he pins s σ H Pr ρ _ I E h) fun v s1 ⟨y,H1,r,ρ1,I1,r1,E1,q1⟩=>?_) hs
 exact store_ok I1 hN hi hx r1 (fun s2 I2=>⟨_,H1,_,I2,E1.store (by rw [I1.len]; exact (List.getElem?_eq_some_iff.mp hi).1),q1⟩) hf
end
end L2
namespace L2
open PySem PySem.Spec PyProof.Rows
theorem owns_perm {a b:Ev} (h:a.Perm b):(owns a).Perm (owns b):=by
 induction h with
 | nil=>exact .refl _
 | cons x _ ih=>rw [owns_cons,owns_cons]; exact ih.append_left _
 | swap x y l =>
  rw [owns_cons,owns_cons,owns_cons,owns_cons,← List.append_assoc,← List.append_assoc]
  exact List.Perm.append_right _ List.perm_append_comm
 | trans _ _ h1 h2=>exact h1.trans h2
theorem owns_sub {a b:Ev} (h:a.Sublist b):(owns a).Sublist (owns b):=by
 induction h with
 | slnil=>exact .refl _
 | cons x _ ih=>rw [owns_cons]; exact ih.trans (List.sublist_append_right _ _)
 | cons_cons x _ ih=>rw [owns_cons,owns_cons]; exact (List.Sublist.refl _).append ih
def tL (K:PySem.W.Frag) (t:W L):TE:=fun σ H Q=>∃ Pr ρ post,REnv K Pr H σ ρ∧t ρ post∧∀ v H' r ρ',REnv K Pr H' (some v::σ) (r::ρ')→post r ρ'→Q v H'
def tW (K:PySem.W.Frag) (t:W Fl):TS:=fun D σ H=>∃ Pr ρ post,REnv K Pr H σ ρ∧t ρ post∧(∀ σ' H' ρ',REnv K Pr H' σ' ρ'→post .nx ρ'→D.nx σ' H')∧(∀ σ' H' ρ',REnv K Pr H' σ' ρ'→post .bk ρ'→D.bk σ' H')∧(∀ σ' H' ρ',REnv K Pr H' σ' ρ'→post .ct ρ'→D.ct σ' H') ∧
 ∀ v τ H' r ρ',REnv K Pr H' (some v::τ) (r::ρ')→post (.rt r) ρ'→D.rt v H'
def tWb (K:PySem.W.Frag) (t:W Bool):TT:=fun σ H Q=>∃ Pr ρ post,REnv K Pr H σ ρ∧t ρ post∧∀ b H' ρ',REnv K Pr H' σ ρ'→post b ρ'→Q b H'
section
variable {X:Cx} {e a b c:Expr} {es rest:List Expr} {pos:Pos} {ta tb tc:W L} {tA tB:W Bool} {st:Stmt} {sts:List Stmt} {t u:W Fl}
theorem PL.pe {t:W L} (h:PL X e t):PE X e (tL X.K t):=fun pins s σ H Q I ⟨Pr,ρ,post,E,ht,q⟩ =>
 thn (h pins s σ H Pr ρ post I E ht) fun u s1 ⟨v,H1,r,ρ1,I1,rv,E1,p⟩=>⟨v,H1,I1,rv,q v H1 r ρ1 E1 p⟩
theorem PB.pt {t:W Bool} (h:PB X e t):PT X e (tWb X.K t):=fun pins s σ H Q I ⟨Pr,ρ,post,E,ht,q⟩ =>
 thn (h pins s σ H Pr ρ post I E ht) fun b s1 ⟨H1,ρ1,I1,E1,p⟩=>⟨H1,I1,q b H1 ρ1 E1 p⟩
theorem PMs.pss (h:PMs X sts t):PSs X sts (tW X.K t):=fun pins s σ H D I ⟨Pr,ρ,post,E,ht,q1,q2,q3,q4⟩ =>
 thn (h pins s σ H Pr ρ post I E ht) fun f s1 q=>by
  cases f with
  | next=>obtain ⟨σ',H',ρ',I',E',p⟩:=q; exact ⟨σ',H',I',q1 σ' H' ρ' E' p⟩
  | brk=>obtain ⟨σ',H',ρ',I',E',p⟩:=q; exact ⟨σ',H',I',q2 σ' H' ρ' E' p⟩
  | cont=>obtain ⟨σ',H',ρ',I',E',p⟩:=q; exact ⟨σ',H',I',q3 σ' H' ρ' E' p⟩
  | ret u=>obtain ⟨v,σ',H',r,ρ',τ,I',rv,E',p⟩:=q; exact ⟨v,σ',H',I',rv,q4 v τ H' r ρ' E' p⟩
def endsOf (K:PySem.W.Frag) (Pr:Hp) (post:Fl→Ev→Prop):Ends where
 nx:=fun σ' H'=>∃ ρ',REnv K Pr H' σ' ρ'∧post .nx ρ'
 rt:=fun v H'=>∃ τ r ρ',REnv K Pr H' (some v::τ) (r::ρ')∧post (.rt r) ρ'
 bk:=fun σ' H'=>∃ ρ',REnv K Pr H' σ' ρ'∧post .bk ρ'
 ct:=fun σ' H'=>∃ ρ',REnv K Pr H' σ' ρ'∧post .ct ρ'
theorem PM.of {ts:TS} (h:PS X st ts) (q:∀ σ H Pr ρ post,σ.length=X.N.length→REnv X.K Pr H σ ρ→t ρ post→ts (endsOf X.K Pr post) σ H):PM X st t:=fun pins s σ H Pr ρ post I E ht =>
 thn (h pins s σ H _ I (q σ H Pr ρ post I.len E ht)) fun f s1 q=>by
  cases f with
  | next=>obtain ⟨σ',H',I',ρ',E',p⟩:=q; exact ⟨σ',H',ρ',I',E',p⟩
  | brk=>obtain ⟨σ',H',I',ρ',E',p⟩:=q; exact ⟨σ',H',ρ',I',E',p⟩
  | cont=>obtain ⟨σ',H',I',ρ',E',p⟩:=q; exact ⟨σ',H',ρ',I',E',p⟩
  | ret u=>obtain ⟨v,σ',H',I',rv,τ,r,ρ',E',p⟩:=q; exact ⟨v,σ',H',r,ρ',τ,I',rv,E',p⟩
theorem REnv.narrow {K:PySem.W.Frag} {Pr H1 H:Hp} {σ1 σ:St} {ρ1 ρ:Ev} (E1:REnv K Pr H1 σ1 ρ1) (E:REnv K (butOwn H1 ρ1) H σ ρ):REnv K Pr H σ ρ:=by
 refine ⟨fun b o e=>E.sub b o ?_,E.nd,fun a ha=>?_,E.sl⟩
 ·
  unfold butOwn
  rw [if_neg,E1.sub b o e]
  intro hm
  have z:=E1.off b hm
  rw [e] at z
  cases z
 ·
  have z:=E.off a ha
  unfold butOwn at z
  by_cases hm:a∈owns ρ1
  ·
   exact E1.off a hm
  ·
   rw [if_neg hm] at z
   cases q:Pr a with
   | none=>rfl
   | some o=>rw [E1.sub a o q] at z; cases z
def aNil:W (List L):=fun ρ post=>post [] ρ
def aVal (t:W L) (r:W (List L)):W (List L):=fun ρ post=>t ρ fun x ρ1=>r ρ1 fun xs ρ2=>post (x::xs) ρ2
def aVar (i:Nat) (r:W (List L)):W (List L):=fun ρ post=>match ρ[i]? with
 | some (.own _ _)=>r ρ fun xs ρ2=>post (.un::xs) ρ2
 | _=>False
theorem pal_nil:PAL X [] [] aNil:=fun _ pins s σ H Pr ρ post I E h=>Calls.spliced_nil ⟨[],H,[],ρ,I,.nil,rfl,rfl,E,fun k i e=>by simp at e,h⟩
theorem pal_val {bs:List (Option Nat)} {r:W (List L)} {t:W L} (ha:PL X e t) (hr:PAL X es bs r) (hs:starEach (e::es) X.env=(false,eval e X.env)::starEach es X.env:=by rfl):PAL X (e::es) (none::bs) (aVal t r):=by
 intro pos pins s σ H Pr ρ post I E h
 rw [hs]
 show wpAny _ _ (spliced ((false,eval e X.env)::backTo pos (starEach es X.env))) _ _ s
 refine Calls.spliced_cons (thn (ha pins s σ H Pr ρ _ I E h) fun u s1 ⟨x,H1,l,ρ1,I1,r1,E1,q1⟩=>?_)
 refine thn (hr pos pins s1 σ H1 _ ρ1 _ I1 E1.tail.wide q1) fun us s2 ⟨vs,H2,ls,ρ2,I2,r2,hl,hb,E2,hv,q2⟩=>?_
 have E3:REnv X.K Pr H2 (vs.map some++(some x::σ)) (ls++(l::ρ2)):=REnv.step (τ:=[some x]) (lam:=[l]) E1 rfl E2 (by simp [hl])
 have E4:REnv X.K Pr H2 (some x::(vs.map some++σ)) (l::(ls++ρ2)):=by
  have pm:(owns (ls++(l::ρ2))).Perm (owns (l::(ls++ρ2))):=owns_perm List.perm_middle
  have s1:=Paired.unapp (by simp [hl]) E3.sl
  obtain ⟨s1,s2⟩:=s1
  cases s2 with
  | cons q t=>exact ⟨E3.sub,pm.nodup_iff.mp E3.nd,fun a h=>E3.off a (pm.mem_iff.mpr h),.cons q (Paired.app s1 t)⟩
 refine ⟨x::vs,H2,l::ls,ρ2,I2,.cons r1 r2,by simp [hl],by simp [hb],E4,fun k i e=>?_,q2⟩
 cases k with
 | zero=>simp at e
 | succ k=>simpa using hv k i (by simpa using e)
theorem pal_var (i:Nat) {x:Str} {p:Pos} {bs:List (Option Nat)} {r:W (List L)} (hr:PAL X es bs r) (hN:X.N[i]?=some x:=by rfl) (hv:Vis X.env.scope x:=by first | exact Or.inl rfl | exact Or.inr (Or.inl rfl) | exact Or.inr (Or.inr rfl)) (hd:(x == ("__debug__" : Str))=false:=by decide)
  (hcd:(x == ("__classdict__" : Str))=false:=by decide) (hs:starEach (.Name x p::es) X.env=(false,eval (.Name x p) X.env)::starEach es X.env:=by rfl):PAL X (.Name x p::es) (some i::bs) (aVar i r):=by
 intro pos pins s σ H Pr ρ post I E h
 unfold aVar at h
 cases q:ρ[i]? with
 | none=>rw [q] at h; exact h.elim
 | some l =>
  rw [q] at h
  cases l with
  | un=>exact h.elim
  | d y=>exact h.elim
  | bx _ _=>exact h.elim
  | dic _ _=>exact h.elim
  | own a xs =>
   obtain ⟨sv,hsl,sl⟩:=E.slot q
   obtain ⟨rfl,_⟩:=sl
   rw [hs]
   show wpAny _ _ (spliced ((false,eval (.Name x p) X.env)::backTo pos (starEach es X.env))) _ _ s
   refine Calls.spliced_cons (thn (pe_var hN hv hd hcd pins s σ H (fun w H'=>w=.ref a∧H'=H) I ⟨.ref a,hsl,rfl,rfl⟩) fun u s1 ⟨w,H1,I1,r1,e1,e2⟩=>?_)
   subst e1 e2
   refine thn (hr pos pins s1 σ H1 Pr ρ _ I1 E h) fun us s2 ⟨vs,H2,ls,ρ2,I2,r2,hl,hb,E2,hv,q2⟩=>?_
   refine ⟨.ref a::vs,H2,.un::ls,ρ2,I2,.cons r1 r2,by simp [hl],by simp [hb],E2.cons_un,fun k j e=>?_,q2⟩
   cases k with
   | zero=>simp at e; subst e; exact ⟨rfl,.ref a,rfl,hsl⟩
   | succ k=>simpa using hv k j (by simpa using e)
def toDs:List L→(List D→Prop)→Prop
 | [],k=>k []
 | .d x::r,k=>toDs r fun xs=>k (x::xs)
 | _::_,_=>False
theorem toDs_is:∀ {ls:List L} {k:List D→Prop},toDs ls k→∃ xs,ls=xs.map .d∧k xs
 | [],_,h=>⟨[],rfl,h⟩
 | .d x::r,k,h=>by
  obtain ⟨xs,e,q⟩:=toDs_is (ls:=r) h
  exact ⟨x::xs,by rw [e]; rfl,q⟩
 | .un::_,_,h=>h.elim
 | .own _ _::_,_,h=>h.elim
theorem reps_of {K:PySem.W.Frag} {Pr H:Hp} {σ:St} {ρ:Ev}:∀ {vs:List V} {xs:List D},vs.length=xs.length→REnv K Pr H (vs.map some++σ) (xs.map .d++ρ)→Reps K H vs xs
 | [],[],_,_=>.nil
 | v::vs,x::xs,hl,E=>by
  obtain ⟨w,e,r⟩:=REnv.head_d (v:=some v) (x:=x) E
  cases e
  exact .cons r (reps_of (by simpa using hl) (REnv.tail (v:=some v) (l:=.d x) E))
 | [],_::_,hl,_=>by simp at hl
 | _::_,[],hl,_=>by simp at hl
def wTup (t:W (List L)):W L:=fun ρ post=>t ρ fun ls ρ1=>toDs ls fun xs=>xs.length≤sizeLine∧post (.d (.tup xs)) ρ1
def wLst (t:W (List L)):W L:=fun ρ post=>t ρ fun ls ρ1=>toDs ls fun xs=>xs.length≤sizeLine∧∀ a,post (.own a xs) ρ1
theorem pl_tup {x1} {bs:List (Option Nat)} {t:W (List L)} (h:PAL X es bs t):PL X (.Tuple es x1 pos) (wTup t):=by
 intro pins s σ H Pr ρ post I E hq
 refine wpAny_Tuple_spliced (thn (h pos pins s σ H Pr ρ _ I E hq) fun us s1 ⟨vs,H1,ls,ρ1,I1,r,hl,hb,E1,hv,q⟩=>?_)
 obtain ⟨xs,rfl,z,q⟩:=toDs_is q
 have hlen:vs.length=xs.length:=by simpa using hl
 refine ⟨by rw [← r.length,hlen]; exact z,?_⟩
 have hf:H1 s1.heap.objs.size=none:=I1.hok.fresh (Nat.le_refl _)
 refine ⟨.ref s1.heap.objs.size,upd H1 s1.heap.objs.size (.tup vs),_,ρ1,I1.laid (t':=s1.toks) (fun b u e=>Heap.get?_push_of_some _ e) (Nat.le_refl _) ?_,rfl,(E1.drop (by simp [hlen])).cons_tup hf (reps_of hlen E1),q⟩
 exact ⟨by rw [hlen]; exact z,us,r,⟨_,Heap.get?_push_size _ rfl,rfl,_,rfl⟩⟩
theorem pl_lst {bs:List (Option Nat)} {t:W (List L)} (h:PAL X es bs t):PL X (.List es pos) (wLst t):=by
 intro pins s σ H Pr ρ post I E hq
 refine wpAny_List_spliced (thn (h pos pins s σ H Pr ρ _ I E hq) fun us s1 ⟨vs,H1,ls,ρ1,I1,r,hl,hb,E1,hv,q⟩=>?_)
 obtain ⟨xs,rfl,z,q⟩:=toDs_is q
 have hlen:vs.length=xs.length:=by simpa using hl
 refine ⟨by rw [← r.length,hlen]; exact z,?_⟩
 have hf:H1 s1.heap.objs.size=none:=I1.hok.fresh (Nat.le_refl _)
 refine ⟨.ref s1.heap.objs.size,upd H1 s1.heap.objs.size (.lst vs),_,ρ1,I1.laid (t':=s1.toks) (fun b u e=>Heap.get?_push_of_some _ e) (Nat.le_refl _) ?_,rfl,(E1.drop (by simp [hlen])).cons_own hf (reps_of hlen E1),q _⟩
 exact ⟨by rw [hlen]; exact z,us,0,r,Heap.get?_push_size _ rfl⟩
abbrev FS:=List L→(L→List L→Prop)→Prop
def spF (K:PySem.W.Frag) (n:Nat) (fs:FS):Sp:=fun vs H Q _=>vs.length=n∧∃ Pr ls post,REnv K Pr H (vs.map some) ls∧fs ls post∧∀ v H' r ls',REnv K Pr H' (some v::vs.map some) (r::ls')→post r ls'→Q v H'
theorem REnv.swap {K:PySem.W.Frag} {Pr H:Hp} {σ τ:St} {ρ lam:Ev} (hl:τ.length=lam.length) (E:REnv K Pr H (τ++σ) (lam++ρ)):REnv K Pr H (σ++τ) (ρ++lam):=by
 have pm:(owns (lam++ρ)).Perm (owns (ρ++lam)):=owns_perm List.perm_append_comm
 obtain ⟨s1,s2⟩:=Paired.unapp hl E.sl
 exact ⟨E.sub,pm.nodup_iff.mp E.nd,fun a h=>E.off a (pm.mem_iff.mpr h),Paired.app s2 s1⟩
theorem callee {K:PySem.W.Frag} {Pr H H':Hp} {σ τ:St} {ρ ls ls':Ev} {v:Option V} {r:L} (hl:τ.length=ls.length) (E:REnv K Pr H (τ++σ) (ls++ρ)) (E':REnv K (butOwn H ls) H' (v::τ) (r::ls')):REnv K Pr H' (v::(τ++σ)) (r::(ls'++ρ)):=by
 have hρ:σ.length=ρ.length:=(E.drop hl).len
 have z:=REnv.step (τ:=σ) (σ:=τ) (lam:=ρ) (ρ:=ls) (w:=[v]) (μ:=[r]) (E.swap hl) hρ E' rfl
 have hl':τ.length=ls'.length:=by have:=E'.len; simpa using this
 obtain ⟨s1,s2⟩:=Paired.unapp (a:=[v]) (b:=[r]) rfl z.sl
 obtain ⟨s2,s3⟩:=Paired.unapp hρ s2
 have pm:(owns ([r]++(ρ++ls'))).Perm (owns (r::(ls'++ρ))):=owns_perm (List.Perm.cons r (List.perm_append_comm (l₁:=ρ) (l₂:=ls')))
 exact ⟨z.sub,pm.nodup_iff.mp z.nd,fun a h=>z.off a (pm.mem_iff.mpr h),Paired.app s1 (Paired.app s3 s2)⟩
def wCall (fs:FS) (t:W (List L)):W L:=fun ρ post=>t ρ fun ls ρ1=>fs ls fun r _=>post r ρ1
def wCallB (fs:FS) (k i:Nat) (t:W (List L)):W L:=fun ρ post=>t ρ fun ls ρ1=>match ρ1[i]? with
 | some (.own a xs)=>fs (ls.set k (.own a xs)) fun r ls'=>∃ ys,ls'[k]?=some (.own a ys)∧post r (ρ1.set i (.own a ys))
 | _=>False
section
variable {CX:CXT} {k n:Nat} {f:Addr} {fd:FuncData} {ps:List Str} {fs:FS} {E:XK} {x:Str} {p:Pos} {bs:List (Option Nat)} {t:W (List L)}
theorem REnv.drop1 {K:PySem.W.Frag} {Pr H:Hp} {σ τ:St} {ρ lam:Ev} {v:Option V} {r:L} (hl:τ.length=lam.length) (E:REnv K Pr H (v::(τ++σ)) (r::(lam++ρ))):REnv K Pr H (v::σ) (r::ρ):=by
 obtain ⟨s1,s2⟩:=Paired.unapp (a:=[v]) (b:=[r]) rfl E.sl
 obtain ⟨s2,s3⟩:=Paired.unapp hl s2
 have sb:(owns (r::ρ)).Sublist (owns (r::(lam++ρ))):=owns_sub (List.Sublist.cons_cons r (List.sublist_append_right _ _))
 exact ⟨E.sub,E.nd.sublist sb,fun a h=>E.off a (sb.subset h),Paired.app s1 s3⟩
theorem pl_call (F:FnOk X.prog X.w X.K X.mg X.base CX k f fd ps (spF X.K n fs)) (hr:Room k X.A) (hg:Gl X x) (hm:X.mg x=some (.ref f)) (hk:PySem.W.keepIn X.K (.ref f)=true) (hb:Binds X.K fd ps []) (hx:Passes CX X E)
  (ha:PAL X (e::es) bs t) (hn:bs.length=n) (hdb:(x == ("__debug__" : Str))=false:=by decide) (he:starEach (e::es) X.env=(false,eval e X.env)::starEach es X.env:=by rfl) (hpl:(backTo pos (starEach es X.env)).any (·.1)=false:=by rfl) :
  PL X (.Call (.Name x p) (e::es) [] pos) (wCall fs t):=by
 intro pins s σ H Pr ρ post I E0 h
 refine wpAny_Call_Name_kw (ld_glob I hg hm ?_ hdb)
 refine PySem.W.callWith_K (h₀:=X.base) I.ok.mod.kin hk (thn (ha pos pins s σ H Pr ρ _ I E0 h) fun us s1 ⟨vs,H1,ls,ρ1,I1,r,hl,hbl,E1,hv,q⟩=>⟨I1.kIn,?_⟩) he hpl
 have hl':(vs.map some).length=ls.length:=by simp [hl]
 refine thn (run_fn (Q:=fun v H'=>∃ r ρ',REnv X.K Pr H' (some v::σ) (r::ρ')∧post r ρ') F hr hb .nil hx I1 r ?_) fun u s2 ⟨v,H2,I2,rv,r,ρ',E2,p⟩=>⟨v,H2,r,ρ',I2,rv,E2,p⟩
 rw [List.append_nil]
 refine ⟨hbl.trans hn,butOwn H1 ls,ls,_,(E1.left hl').wide,q,fun v H' r ls' E2 p=>⟨r,ρ1,?_,p⟩⟩
 have z:=callee hl' E1 E2
 have hl2:(vs.map some).length=ls'.length:=by have:=E2.len; simpa using this
 exact z.drop1 hl2
theorem pl_callB (F:FnOk X.prog X.w X.K X.mg X.base CX k f fd ps (spF X.K n fs)) (hr:Room k X.A) (hg:Gl X x) (hm:X.mg x=some (.ref f)) (hk:PySem.W.keepIn X.K (.ref f)=true) (hb:Binds X.K fd ps []) (hx:Passes CX X E)
  (j i:Nat) (ha:PAL X (e::es) bs t) (hj:bs[j]?=some (some i)) (hn:bs.length=n) (hdb:(x == ("__debug__" : Str))=false:=by decide) (he:starEach (e::es) X.env=(false,eval e X.env)::starEach es X.env:=by rfl) (hpl:(backTo pos (starEach es X.env)).any (·.1)=false:=by rfl) :
  PL X (.Call (.Name x p) (e::es) [] pos) (wCallB fs j i t):=by
 intro pins s σ H Pr ρ post I E0 h
 refine wpAny_Call_Name_kw (ld_glob I hg hm ?_ hdb)
 refine PySem.W.callWith_K (h₀:=X.base) I.ok.mod.kin hk (thn (ha pos pins s σ H Pr ρ _ I E0 h) fun us s1 ⟨vs,H1,ls,ρ1,I1,r,hl,hbl,E1,hv,q⟩=>⟨I1.kIn,?_⟩) he hpl
 have hl':(vs.map some).length=ls.length:=by simp [hl]
 refine thn (run_fn (Q:=fun v H'=>∃ r ρ',REnv X.K Pr H' (some v::σ) (r::ρ')∧post r ρ') F hr hb .nil hx I1 r ?_) fun u s2 ⟨v,H2,I2,rv,r,ρ',E2,p⟩=>⟨v,H2,r,ρ',I2,rv,E2,p⟩
 rw [List.append_nil]
 dsimp only at q
 cases qi:ρ1[i]? with
 | none=>rw [qi] at q; exact q.elim
 | some l =>
  rw [qi] at q
  cases l with
  | un=>exact q.elim
  | d y=>exact q.elim
  | bx _ _=>exact q.elim
  | dic _ _=>exact q.elim
  | own a xs =>
   obtain ⟨hun,w,hw,hσ⟩:=hv j i hj
   obtain ⟨sv,hs2,rfl,_⟩:=(E1.drop hl').slot qi
   rw [hσ] at hs2
   cases hs2
   have hjl:j < ls.length:=(List.getElem?_eq_some_iff.mp hun).1
   have hjv:j < vs.length:=by omega
   have hil:i < ρ1.length:=(List.getElem?_eq_some_iff.mp qi).1
   have E2:=E1.out (i:=ls.length+i) (a:=a) (xs:=xs) (by rw [List.getElem?_append_right (by omega)]; simpa using qi)
   rw [List.set_append_right _ _ (by omega),Nat.add_sub_cancel_left] at E2
   have E3:=E2.back (i:=j) (by rw [List.getElem?_append_left hjl]; exact hun) (by rw [List.getElem?_append_left (by simp; omega)]; simp [hw])
   rw [List.set_append_left _ _ hjl] at E3
   have hl3:(vs.map some).length=(ls.set j (.own a xs)).length:=by simp [hl]
   refine ⟨hbl.trans hn,butOwn H1 (ls.set j (.own a xs)),_,_,(E3.left hl3).wide,q,fun v H' r ls' E4 p=>?_⟩
   obtain ⟨ys,hys,p⟩:=p
   refine ⟨r,ρ1.set i (.own a ys),?_,p⟩
   have z:=callee hl3 E3 E4
   have hl4:(vs.map some).length=ls'.length:=by have:=E4.len; simpa using this
   have hjl':j < ls'.length:=by simp at hl4; omega
   have z1:=z.out (i:=1+j) (a:=a) (xs:=ys) (by rw [Nat.add_comm]; simp only [List.getElem?_cons_succ]; rw [List.getElem?_append_left hjl']; exact hys)
   rw [Nat.add_comm 1 j,List.set_cons_succ,List.set_append_left _ _ hjl'] at z1
   have z2:=z1.back (i:=(1+ls'.length)+i) (by
    rw [Nat.add_comm 1,Nat.add_right_comm,List.getElem?_cons_succ,List.getElem?_append_right (by simp)]
    simp [hil]) (by
    rw [Nat.add_comm 1,Nat.add_right_comm,List.getElem?_cons_succ,List.getElem?_append_right (by simp at hl4 ⊢; omega)]
    simp at hl4 ⊢
    rw [← hl4,Nat.add_sub_cancel_left]
    exact hσ)
   rw [Nat.add_comm 1,Nat.add_right_comm,List.set_cons_succ,List.set_append_right _ _ (by simp)] at z2
   simp only [List.length_set,Nat.add_sub_cancel_left,List.set_set] at z2
   exact z2.drop1 (by simp at hl4 ⊢; exact hl4)
end
end
end L2
namespace L2
open PySem PySem.Spec PyProof.Rows
def Back (ρ:Ev):List L→List L→Prop:=Paired fun l l'=>match l with
 | .own a _=>(∃ ys,l'=.own a ys∧L.own a ys∈ρ)∨l'=.un
 | .bx _ _=>l'=.un
 | .dic _ _=>l'=.un
 | l=>l'=l
def okEnd (ls:List L) (post:L→List L→Prop):Fl→Ev→Prop:=fun f ρ=>match f with
 | .rt r=>∃ ls',Back ρ ls ls'∧post r ls'
 | .nx=>∃ ls',Back ρ ls ls'∧post (.d .non) ls'
 | _=>False
theorem Back.owns {ρ:Ev}:∀ {ls ls':List L},Back ρ ls ls'→(owns ls').Sublist (owns ls)
 | _,_,.nil=>.refl _
 | l::ls,l'::ls',.cons h t=>by
  have ih:=Back.owns t
  rw [owns_cons,owns_cons]
  cases l with
  | own a xs =>
   rcases h with ⟨ys,rfl,_⟩ | rfl
   ·
    exact (List.Sublist.refl _).append ih
   ·
    exact ih.trans (List.sublist_append_right _ _)
  | un=>have e:l'=.un:=h; subst e; exact (List.Sublist.refl _).append ih
  | d x=>have e:l'=.d x:=h; subst e; exact (List.Sublist.refl _).append ih
  | bx k ms=>have e:l'=.un:=h; subst e; exact ih.trans (List.sublist_append_right _ _)
  | dic k ms=>have e:l'=.un:=h; subst e; exact ih.trans (List.sublist_append_right _ _)
theorem Back.sub {ρ:Ev}:∀ {ls ls':List L},Back ρ ls ls'→∀ a∈L2.owns ls',a∈L2.owns ρ
 | _,_,.nil=>fun a ha=>by simp [L2.owns] at ha
 | l::ls,l'::ls',.cons h t=>fun a ha=>by
  have ih:=Back.sub t
  rw [owns_cons] at ha
  rcases List.mem_append.mp ha with z | z
  ·
   cases l with
   | own b xs =>
    rcases h with ⟨ys,rfl,hm⟩ | rfl
    ·
     have e:a=b:=by simpa [ownsL] using z
     subst e
     exact own_mem hm
    ·
     simp [ownsL] at z
   | un=>have e:l'=.un:=h; subst e; simp [ownsL] at z
   | d x=>have e:l'=.d x:=h; subst e; simp [ownsL] at z
   | bx k ms=>have e:l'=.un:=h; subst e; simp [ownsL] at z
   | dic k ms=>have e:l'=.un:=h; subst e; simp [ownsL] at z
  ·
   exact ih a z
theorem back_env {K:PySem.W.Frag} {Pr H H':Hp} {σ τ:St} {ls ls' ρ:Ev} {v:Option V} {r:L} (E:REnv K Pr H σ ls) (E':REnv K (butOwn H ls) H' (v::τ) (r::ρ)) (B:Back ρ ls ls'):REnv K Pr H' (v::σ) (r::ls'):=by
 have E1:=E.narrow E'
 have p:Pres H H':=pres_of E E'.sub
 have sub:=B.sub
 have nd1:(owns ls').Nodup:=E.nd.sublist B.owns
 refine ⟨E1.sub,?_,fun a ha=>?_,?_⟩
 ·
  have nd:=E'.nd
  rw [owns_cons] at nd ⊢
  obtain ⟨n1,n2,n3⟩:=List.nodup_append.mp nd
  exact List.nodup_append.mpr ⟨n1,nd1,fun a ha b hb=>n3 a ha b (sub b hb)⟩
 ·
  rw [owns_cons] at ha
  refine E1.off a ?_
  rw [owns_cons]
  rcases List.mem_append.mp ha with z | z
  ·
   exact List.mem_append_left _ z
  ·
   exact List.mem_append_right _ (sub a z)
 ·
  have s1:=E'.sl
  cases s1 with
  | cons q t =>
   refine .cons q ?_
   have sl:=E.sl
   clear E E' E1 nd1 sub
   induction B generalizing σ with
   | nil=>cases sl; exact .nil
   | cons h u ih =>
    rename_i l l' _ _
    cases sl with
    | cons s0 s2 =>
     refine .cons ?_ (ih s2)
     cases l with
     | own a xs =>
      rcases h with ⟨ys,rfl,hm⟩ | rfl
      ·
       obtain ⟨e,_⟩:=s0
       obtain ⟨_,_,_,z⟩:=Paired.mem2 t hm
       exact ⟨e,z⟩
      ·
       unfold Slot1; exact True.intro
     | un=>have e:l'=.un:=h; subst e; unfold Slot1; exact True.intro
     | bx k ms=>have e:l'=.un:=h; subst e; unfold Slot1; exact True.intro
     | dic k ms=>have e:l'=.un:=h; subst e; unfold Slot1; exact True.intro
     | d x =>
      have e:l'=.d x:=h
      subst e
      obtain ⟨w,e,r⟩:=s0
      exact ⟨w,e,r.pres p⟩
section
variable {P:Program} {w:World} {K:PySem.W.Frag} {mg:Str→Option Value} {base:Heap}
theorem REnv.uns {K:PySem.W.Frag} {Pr H:Hp} {σ:St} {ρ:Ev} (E:REnv K Pr H σ ρ):∀ n,REnv K Pr H (σ++List.replicate n none) (ρ++List.replicate n .un):=fun n=>by
 have e:owns (ρ++List.replicate n .un)=owns ρ:=by
  rw [owns_append]
  have:owns (List.replicate n L.un)=[]:=by
   induction n with
   | zero=>rfl
   | succ n ih=>rw [List.replicate_succ,owns_cons_un]; exact ih
  rw [this,List.append_nil]
 refine ⟨E.sub,by rw [e]; exact E.nd,fun a h=>E.off a (by rw [e] at h; exact h),Paired.app E.sl ?_⟩
 induction n with
 | zero=>exact .nil
 | succ n ih =>
  rw [List.replicate_succ,List.replicate_succ]
  refine .cons True.intro (ih ?_)
  have:owns (List.replicate n L.un)=[]:=by
   clear ih e
   induction n with
   | zero=>rfl
   | succ n ih=>rw [List.replicate_succ,owns_cons_un]; exact ih
  rw [owns_append,this,List.append_nil]
theorem fn_ok {x qual:Str} {st:Stmt} {f:Addr} {fd:FuncData} {N ps:List Str} {k:Nat} {fs:FS} (F:Fun K x qual st f fd) (S:FnScope N ps (defScope st)) (t:W Fl)
  (hbody:∀ (cdv:Value) (A:Around) (outer:List Env) (s:Shared) (H:Hp) (E:XK),Room k (A.deeper (envOfC qual (defScope st) s.heap.objs.size f cdv))→PMs (cxOf CX0 P w K mg base N qual (defScope st) f cdv A outer s H E).nox (defBody st) t)
  (h:∀ ls post,ls.length=ps.length→fs ls post→t (ls++List.replicate (N.length - ps.length) .un) (okEnd ls post)):FnOk P w K mg base CX0 (k+1) f fd ps (spF K ps.length fs):=by
 refine F.ok S (fun vs H Q E q=>q.1) (fun cdv A outer s H vs Q E hr q=>?_)
 obtain ⟨hl,Pr,ls,post,E0,hf,q⟩:=q
 refine ⟨_,(hbody cdv A outer s H E hr).pss,butOwn H ls,ls++List.replicate (N.length - ps.length) .un,okEnd ls post,?_,h ls post (by rw [← hl]; have:=E0.len; simpa using this.symm) hf,fun σ' H' ρ' E' p=>?_,fun _ _ _ _ p=>p.elim,fun _ _ _ _ p=>p.elim,fun v τ H' r ρ' E' p=>?_⟩
 ·
  unfold start
  rw [hl]
  exact E0.wide.uns _
 ·
  obtain ⟨ls',B,p⟩:=p
  exact q .non H' (.d .non) ls' (back_env E0 (E'.cons_d .non) B) p
 ·
  obtain ⟨ls',B,p⟩:=p
  exact q v H' r ls' (back_env E0 E' B) p
end
theorem back0 {ρ:Ev}:Back ρ [] []:=.nil
theorem back_d {ρ:Ev} {x:D} {a b:List L} (t:Back ρ a b):Back ρ (.d x::a) (.d x::b):=.cons rfl t
theorem back_own {ρ:Ev} {p:Addr} {xs ys:List D} {a b:List L} (h:L.own p ys∈ρ) (t:Back ρ a b):Back ρ (.own p xs::a) (.own p ys::b):=.cons (.inl ⟨ys,rfl,h⟩) t
section
variable {X:Cx} {e a b c tg:Expr} {es rest:List Expr} {pos:Pos} {ta tb tc:W L} {tA tB:W Bool} {st:Stmt} {sts:List Stmt} {t u:W Fl}
def wWhile (c:W Bool) (b:W Fl):W Fl:=fun ρ post=>∃ J:Nat→Ev→Prop,(∃ n,J n ρ)∧∀ n ρ,J n ρ→c ρ fun t ρ1=>if t=true then b ρ1 fun f ρ2=>(match f with
 | .nx=>∃ m,m < n∧J m ρ2
 | .ct=>∃ m,m < n∧J m ρ2
 | .bk=>post .nx ρ2
 | .rt r=>post (.rt r) ρ2) else post .nx ρ1
theorem pm_while {body:List Stmt} (hp:PassesOwn (model X.prog X.w) X.A X.env X.xe) (hc:PB X c tA) (hb:PMs X body t):PM X (.While c body [] pos) (wWhile tA t):=by
 refine PM.of (ps_while hp hc.pt hb.pss) fun σ H Pr ρ post hlen E h=>?_
 obtain ⟨J,⟨n0,j0⟩,turn⟩:=h
 refine ⟨fun n σ H=>∃ ρ,REnv X.K Pr H σ ρ∧J n ρ,⟨n0,ρ,E,j0⟩,fun n σ1 H1 ⟨ρ1,E1,j1⟩=>⟨Pr,ρ1,_,E1,turn n ρ1 j1,fun b H2 ρ2 E2 q=>?_⟩⟩
 cases b with
 | false=>exact ⟨ρ2,E2,q⟩
 | true =>
  refine ⟨fun σ' H'=>∃ ρ' m,REnv X.K Pr H' σ' ρ'∧m < n∧J m ρ',fun σ' H' ⟨ρ',m,E',hm,j⟩=>⟨m,hm,ρ',E',j⟩,Pr,ρ2,_,E2,q,fun σ' H' ρ' E' ⟨m,hm,j⟩=>⟨ρ',m,E',hm,j⟩,fun σ' H' ρ' E' p=>⟨ρ',E',p⟩,fun σ' H' ρ' E' ⟨m,hm,j⟩=>⟨ρ',m,E',hm,j⟩,fun v τ H' r ρ' E' p=>⟨τ,r,ρ',E',p⟩⟩
abbrev Tg:=D→Ev→(Ev→Prop)→Prop
def PT1 (X:Cx) (tg:Expr) (g:Tg):Prop:=∃ gg:TG,PG X tg gg∧∀ v σ H Pr ρ x k,σ.length=X.N.length→REnv X.K Pr H σ ρ→Rep X.K H v x→g x ρ k→gg v σ H fun σ' H'=>H'=H∧σ'.length=X.N.length∧∃ ρ',REnv X.K Pr H σ' ρ'∧k ρ'
def tgName (i:Nat):Tg:=fun x ρ k=>k (ρ.set i (.d x))
theorem tg_name {i:Nat} {x:Str} (hN:X.N.Nodup) (hi:X.N[i]?=some x) (hx:Loc X.env.scope x) (hf:X.fn x=true∨X.env.scope.names.lookup x=some .local:=by first | exact .inl rfl | exact .inr rfl | assumption):PT1 X (.Name x pos) (tgName i) :=
 ⟨_,pg_name hN hi hx hf,fun v σ H Pr ρ x k hl E r h=>⟨rfl,by simpa using hl,_,(E.cons_d r).store (by rw [hl]; exact (List.getElem?_eq_some_iff.mp hi).1),h⟩⟩
def tgNames:List Nat→List D→Ev→(Ev→Prop)→Prop
 | [],[],ρ,k=>k ρ
 | i::is,x::xs,ρ,k=>tgNames is xs (ρ.set i (.d x)) k
 | _,_,_,_=>False
def PTs (X:Cx) (es:List Expr) (is:List Nat):Prop:=∃ gg:TGs,PGs X es gg∧es.length=is.length∧∀ vs σ H Pr ρ xs k,σ.length=X.N.length→REnv X.K Pr H σ ρ→Reps X.K H vs xs→tgNames is xs ρ k→gg vs σ H fun σ' H'=>H'=H∧σ'.length=X.N.length∧∃ ρ',REnv X.K Pr H σ' ρ'∧k ρ'
theorem tgs_nil:PTs X [] []:=⟨_,pgs_nil,rfl,fun vs σ H Pr ρ xs k hl E r h=>by
 cases r with
 | nil=>exact ⟨rfl,rfl,hl,ρ,E,h⟩
 | cons _ _=>exact h.elim⟩
theorem tgs_cons {i:Nat} {is:List Nat} {x:Str} (hN:X.N.Nodup) (hi:X.N[i]?=some x) (hx:Loc X.env.scope x) (hr:PTs X es is) (hf:X.fn x=true∨X.env.scope.names.lookup x=some .local:=by first | exact .inl rfl | exact .inr rfl | assumption)
  (hs:(assignEach (.Name x pos::es) X.env).map (·.2)=assign (.Name x pos) X.env::(assignEach es X.env).map (·.2):=by rfl):PTs X (.Name x pos::es) (i::is):=by
 obtain ⟨gg,hg,hlen,q⟩:=hr
 refine ⟨_,pgs_cons (pg_name hN hi hx hf) hg hs,by simp [hlen],fun vs σ H Pr ρ xs k hl E r h=>?_⟩
 cases r with
 | nil=>exact h.elim
 | cons r0 t =>
  refine ⟨_,_,rfl,?_⟩
  exact q _ _ H Pr _ _ k (by simpa using hl) ((E.cons_d r0).store (by rw [hl]; exact (List.getElem?_eq_some_iff.mp hi).1)) t h
def tgTup (is:List Nat):Tg:=fun x ρ k=>match x with
 | .tup xs=>tgNames is xs ρ k
 | _=>False
theorem tgNames_len:∀ {is:List Nat} {xs:List D} {ρ:Ev} {k:Ev→Prop},tgNames is xs ρ k→xs.length=is.length
 | [],[],_,_,_=>rfl
 | _::is,_::xs,_,_,h=>by simp [tgNames_len (is:=is) (xs:=xs) h]
 | [],_::_,_,_,h=>h.elim
 | _::_,[],_,_,h=>h.elim
theorem tg_tup {is:List Nat} {k:Nat} (hc:X.calm=true) (h:PTs X es is) (hn:(assignEach es X.env).length=is.length:=by rfl) (hst:(assignEach es X.env).findIdx? (·.1)=none:=by rfl):PT1 X (.Tuple es k pos) (tgTup is):=by
 obtain ⟨gg,hg,hlen,q⟩:=h
 refine ⟨_,pg_tup hc hg hn hst,fun v σ H Pr ρ x k hl E r h=>?_⟩
 cases r with
 | tup hs rs=>exact ⟨_,_,rfl,hs,by rw [rs.length]; exact tgNames_len h,q _ σ H Pr ρ _ k hl E rs h⟩
 | _=>exact h.elim
def wForL (g:Tg) (b:W Fl):List D→W Fl
 | []=>fun ρ post=>post .nx ρ
 | x::xs=>fun ρ post=>g x ρ fun ρ1=>b ρ1 fun f ρ2=>match f with
  | .nx=>wForL g b xs ρ2 post
  | .ct=>wForL g b xs ρ2 post
  | .bk=>post .nx ρ2
  | .rt r=>post (.rt r) ρ2
def itemsOf:D→(List D→Prop)→Prop
 | .lst xs,k=>k xs
 | .tup xs,k=>k xs
 | _,_=>False
def Grown (H H':Hp):Prop:=H'=H∨∃ p o,H p=none∧H'=upd H p o
theorem REnv.grown {K:PySem.W.Frag} {Pr H H':Hp} {σ:St} {ρ:Ev} (E:REnv K Pr H σ ρ) (g:Grown H H'):REnv K Pr H' σ ρ:=by
 rcases g with rfl | ⟨p,o,h,rfl⟩
 ·
  exact E
 ·
  exact E.new h
def Gives (K:PySem.W.Frag) (H:Hp) (J:It) (xs:List D):Prop:=∀ H',Pres H H' →
 (∀ i x,xs[i]?=some x→J.go i H'∧∀ v H2,J.yld i H' v H2→Grown H' H2∧Rep K H2 v x)∧J.stop xs.length H'
def EI (X:Cx) (pins:List (Addr×Obj)) (σ:St) (tg:Expr) (Pr:Hp) (post:List D→Ev→Prop) (itv:Value) (s2:Shared):Prop :=
 ∃ (it:Addr) (fp:List Addr) (tn:Nat→Heap→Prop) (J:It) (H':Hp) (xs:List D) (ρ':Ev),itv=.ref it∧Inv X pins σ H' s2∧Turn X.prog X.w X.K tg J fp it tn∧tn 0 s2.heap∧(∀ b∈fp,FpOk X pins H' b)∧REnv X.K Pr H' σ ρ'∧Gives X.K H' J xs∧post xs ρ'
def PIL (X:Cx) (tg iter:Expr) (w:W (List D)):Prop :=
 ∀ (pins:List (Addr×Obj)) (s:Shared) (σ:St) (H Pr:Hp) (ρ:Ev) (post:List D→Ev→Prop),Inv X pins σ H s→REnv X.K Pr H σ ρ→w ρ post →
  wpAny (model X.prog X.w) X.A (eval iter X.env) (fun v s1=>wpAny (model X.prog X.w) X.A (pyIter v) (EI X pins σ tg Pr post) X.xe s1) X.xe s
def wSrc (t:W L):W (List D):=fun ρ post=>t ρ fun r ρ1=>toD r fun x=>itemsOf x fun xs=>post xs ρ1
theorem gives_list {K:PySem.W.Frag} {H:Hp} {a:Addr} {vs:List V} {xs:List D} (h:SqZ K H a vs) (r:Reps K H vs xs):Gives K H (Itl K a) xs:=fun H' p=>by
 have h':=(h.pres p).l
 refine ⟨fun i x e=>?_,⟨vs,h',by rw [r.length]; exact Nat.le_refl _⟩⟩
 obtain ⟨v,ev,rv⟩:=r.get e
 refine ⟨⟨vs,v,h',ev⟩,fun w H2 ⟨e1,e2⟩=>?_⟩
 have e3:=e2 vs h'
 rw [ev] at e3
 cases e3
 subst e1
 exact ⟨.inl rfl,rv.pres p⟩
theorem gives_tup {K:PySem.W.Frag} {H:Hp} {a:Addr} {vs:List V} {xs:List D} (h:SqT K H a vs) (r:Reps K H vs xs):Gives K H (Itt K a) xs:=fun H' p=>by
 have h':=h.pres p
 refine ⟨fun i x e=>?_,⟨vs,h',by rw [r.length]; exact Nat.le_refl _⟩⟩
 obtain ⟨v,ev,rv⟩:=r.get e
 refine ⟨⟨vs,v,h',ev⟩,fun w H2 ⟨e1,e2⟩=>?_⟩
 have e3:=e2 vs h'
 rw [ev] at e3
 cases e3
 subst e1
 exact ⟨.inl rfl,rv.pres p⟩
theorem pil_seq {t:W L} (h:PL X e t):PIL X tg e (wSrc t):=by
 intro pins s σ H Pr ρ post I E ht
 refine thn (h pins s σ H Pr ρ _ I E ht) fun u s1 q=>?_
 obtain ⟨v,H1,x,ρ1,I1,r1,E1,q2⟩:=EL.frz (post:=fun x ρ1=>itemsOf x fun xs=>post xs ρ1) q
 obtain ⟨_,e1,p⟩:=E1.head_d
 cases e1
 cases p with
 | lst hz rs =>
  cases r1
  obtain ⟨its,rv,pl,hz'⟩:=I1.list hz.l
  refine wpAny_pyIter_list pl.isList ?_
  refine ⟨s1.heap.objs.size,[s1.heap.objs.size],_,_,H1,_,ρ1,rfl,I1.kept (t':=s1.toks) fun b o e=>Heap.get?_push_of_some _ e,turn_list _ _,⟨_,Heap.get?_push_size _ rfl,rfl,rfl⟩,fun b hb=>?_,E1.tail,gives_list hz rs,q2⟩
  have e:b=s1.heap.objs.size:=by simpa using hb
  subst e
  exact I1.fpOk (Nat.le_refl _) (I1.hok.fresh (Nat.le_refl _))
 | tup hz rs =>
  cases r1
  obtain ⟨its,rv,pl,hz'⟩:=I1.tuple hz
  refine wpAny_pyIter_tuple (show s1.heap.IsTuple _ its.toArray from pl) ?_
  refine ⟨s1.heap.objs.size,[s1.heap.objs.size],_,_,H1,_,ρ1,rfl,I1.kept (t':=s1.toks) fun b o e=>Heap.get?_push_of_some _ e,turn_tuple _ _,⟨_,Heap.get?_push_size _ rfl,rfl,rfl⟩,fun b hb=>?_,E1.tail,gives_tup hz rs,q2⟩
  have e:b=s1.heap.objs.size:=by simpa using hb
  subst e
  exact I1.fpOk (Nat.le_refl _) (I1.hok.fresh (Nat.le_refl _))
 | _=>exact q2.elim
def rngD (lo:Int) (n:Nat):List D:=(List.range n).map fun (i:Nat)=>.int (lo+(i:Int))
theorem gives_rng {K:PySem.W.Frag} {H:Hp} (lo:Int) (n:Nat):Gives K H (Itr lo n) (rngD lo n):=fun H' p=>by
 refine ⟨fun i x e=>?_,?_⟩
 ·
  have hi:i < n:=by
   have:=(List.getElem?_eq_some_iff.mp e).1
   simpa [rngD] using this
  refine ⟨hi,fun v H2 ⟨e1,e2⟩=>?_⟩
  subst e1 e2
  have:x=.int (lo+(i:Int)):=by
   unfold rngD at e
   rw [List.getElem?_map,List.getElem?_range hi] at e
   simpa using e.symm
  subst this
  exact ⟨.inl rfl,.int _⟩
 ·
  show n≤(rngD lo n).length
  simp [rngD]
def toInt:L→(Int→Prop)→Prop
 | .d (.int i),k=>k i
 | _,_=>False
theorem toInt_is {r:L} {k:Int→Prop} (h:toInt r k):∃ i,r=.d (.int i)∧k i:=by
 cases r with
 | d x=>cases x with
  | int i=>exact ⟨i,rfl,h⟩
  | _=>exact h.elim
 | _=>exact h.elim
def smallI (j:Int):Prop:=-(2 ^ 62)≤j∧j < 2 ^ 62
def wRng1 (t:W L):W (List D):=fun ρ post=>t ρ fun r ρ1=>toInt r fun j=>smallI j∧post (rngD 0 j.toNat) ρ1
def wRng2 (t u:W L):W (List D):=fun ρ post=>t ρ fun r ρ1=>toInt r fun i=>u ρ1 fun r ρ2=>toInt r fun j=>smallI i∧smallI j∧post (rngD i (j - i).toNat) ρ2
theorem pil_rng1 {t:W L} {p pos:Pos} (hg:Gl X "range") (hm:X.mg "range"=none) (ha:PL X a t) (hs:starEach [a] X.env=[(false,eval a X.env)]:=by rfl):PIL X tg (.Call (.Name "range" p) [a] [] pos) (wRng1 t):=by
 intro pins s σ H Pr ρ post I E h
 refine thn (pi_range1 (tg:=tg) hg hm (pa_cons ha.pe pa_nil hs) hs pins s σ H (fun J H1=>∃ ρ1 n,J=Itr 0 n∧REnv X.K Pr H1 σ ρ1∧post (rngD 0 n) ρ1) I ?_) fun v s1 q=>thn q fun itv s2 ⟨it,fp,tn,J,H',e,I',T,t0,hf,ρ1,n,eJ,E1,q⟩=>?_
 ·
  refine ⟨Pr,ρ,_,E,h,fun v H' r ρ' E' p=>?_⟩
  obtain ⟨j,rfl,hj,p⟩:=toInt_is p
  obtain ⟨_,e1,p1⟩:=E'.head_d
  cases e1
  cases p1
  exact ⟨j,rfl,hj.1,hj.2,ρ',_,rfl,E'.tail,p⟩
 ·
  subst eJ
  exact ⟨it,fp,tn,_,H',_,ρ1,e,I',T,t0,hf,E1,gives_rng 0 n,q⟩
theorem pil_rng2 {t u:W L} {p pos:Pos} (hg:Gl X "range") (hm:X.mg "range"=none) (ha:PL X a t) (hb:PL X b u) (hs:starEach [a,b] X.env=[(false,eval a X.env),(false,eval b X.env)]:=by rfl) (hs2:starEach [b] X.env=[(false,eval b X.env)]:=by rfl):PIL X tg (.Call (.Name "range" p) [a,b] [] pos) (wRng2 t u):=by
 intro pins s σ H Pr ρ post I E h
 refine thn (pi_range2 (tg:=tg) hg hm (pa_cons ha.pe (pa_cons hb.pe pa_nil hs2) (hs.trans (by rw [hs2]))) hs hs2 pins s σ H (fun J H1=>∃ ρ1 lo n,J=Itr lo n∧REnv X.K Pr H1 σ ρ1∧post (rngD lo n) ρ1) I ?_) fun v s1 q=>thn q fun itv s2 ⟨it,fp,tn,J,H',e,I',T,t0,hf,ρ1,lo,n,eJ,E1,q⟩=>?_
 ·
  refine ⟨Pr,ρ,_,E,h,fun v H' r ρ' E' p=>?_⟩
  obtain ⟨i,rfl,p⟩:=toInt_is p
  obtain ⟨_,e1,p1⟩:=E'.head_d
  cases e1
  cases p1
  refine ⟨Pr,ρ',_,E'.tail,p,fun v H2 r ρ2 E2 p=>?_⟩
  obtain ⟨j,rfl,hi,hj,p⟩:=toInt_is p
  obtain ⟨_,e1,p1⟩:=E2.head_d
  cases e1
  cases p1
  exact ⟨i,j,rfl,⟨hi.1,hi.2,hj.1,hj.2⟩,ρ2,_,_,rfl,E2.tail,p⟩
 ·
  subst eJ
  exact ⟨it,fp,tn,_,H',_,ρ1,e,I',T,t0,hf,E1,gives_rng lo n,q⟩
def wFor (s:W (List D)) (g:Tg) (b:W Fl):W Fl:=fun ρ post=>s ρ fun xs ρ1=>wForL g b xs ρ1 post
theorem pm_for {iter:Expr} {body:List Stmt} {w:W (List D)} {g:Tg} (hp:PassesOwn (model X.prog X.w) X.A X.env X.xe) (hc:X.calm=true) (hi:PIL X tg iter w) (hg:PT1 X tg g) (hb:PMs X body t)
  (hs:∀ x,foldedSetIterable iter X.env x=pure x:=by intro _; rfl):PM X (.For tg iter body [] pos) (wFor w g t):=by
 intro pins s σ H Pr ρ post I E h
 obtain ⟨gg,hg,hgg⟩:=hg
 refine wpAny_For (thn (hi pins s σ H Pr ρ _ I E h) fun v s1 h1=>thn h1 fun itv s2 h2=>?_) hs
 obtain ⟨it,fp,tn,J,H2,xs,ρ2,e,I2,T,st2,f2,E2,G,w0⟩:=h2
 subst e
 have stat:∀ {H':Hp},(∀ b∈fp,H' b=none)→∀ b∈fp,FpOk X pins H' b:=fun hn b hb=>⟨hn b hb,(f2 b hb).2⟩
 refine codeAny_forLoop_any (fun n s'=>∃ i σ' H' ρ',n+i=xs.length∧Inv X pins σ' H' s'∧tn i s'.heap∧(∀ b∈fp,H' b=none)∧REnv X.K (butOwn H2 ρ2) H' σ' ρ'∧wForL g t (xs.drop i) ρ' post) ?_ xs.length ⟨0,σ,H2,ρ2,by omega,I2,st2,fun b hb=>(f2 b hb).1,E2.wide,by simpa using w0⟩
 rintro n s3 ⟨i,σ3,H3,ρ3,hn,I3,st3,fr3,E3,w3⟩
 obtain ⟨go,stop⟩:=G H3 (pres_of E2 E3.sub)
 by_cases hlt:i < xs.length
 ·
  obtain ⟨hgo,hy⟩:=go i xs[i] (List.getElem?_eq_getElem hlt)
  rw [List.drop_eq_getElem_cons hlt] at w3
  refine wpAny_passesOwn hp (thn (T.item X rfl rfl rfl hc i pins s3 σ3 H3 X.xe I3 (stat fr3) st3 hgo) fun r s4 ⟨u,hr,h4⟩=>?_)
  subst hr
  refine wpAny_passesOwn hp (thn h4 fun _ s5 ⟨x,H5,I5,r5,y5,st5,fr5⟩=>?_)
  obtain ⟨gr,rx⟩:=hy x H5 y5
  have I5':=I5.pinned (stat fr5) (T.obj _ _ st5)
  have E5:=E3.grown gr
  refine wpAny_passesOwn hp (thn (hg _ s5 σ3 H5 x u _ I5' r5 (hgg x σ3 H5 _ ρ3 xs[i] _ I5.len E5 rx w3)) fun _ s6 ⟨σ6,H6,I6,e6,hl6,ρ6,E6,q6⟩=>?_)
  subst e6
  refine wpAny_passesOwn hp (thn (hb _ s6 σ6 _ _ ρ6 _ I6 E6 q6) fun f s7 q7=>?_)
  have again:∀ {σ7:St} {H7:Hp} {ρ7:Ev},Inv X (pins++pinsAt fp s5.heap) σ7 H7 s7→REnv X.K (butOwn H2 ρ2) H7 σ7 ρ7→wForL g t (xs.drop (i+1)) ρ7 post →
    ∃ m,m < n∧∃ i σ' H' ρ',m+i=xs.length∧Inv X pins σ' H' s7∧tn i s7.heap∧(∀ b∈fp,H' b=none)∧REnv X.K (butOwn H2 ρ2) H' σ' ρ'∧wForL g t (xs.drop i) ρ' post:=fun {σ7 H7 ρ7} I7 E7 n7=>by
   refine ⟨n - 1,by omega,i+1,σ7,H7,ρ7,by omega,I7.unpinned,T.keep _ _ _ st5 fun b hb o e=>(I7.pin (b,o) (List.mem_append_right _ (List.mem_append_right _ (mem_pinsAt hb e)))).1,fun b hb=>?_,E7,n7⟩
   obtain ⟨o,e,d⟩:=T.obj _ _ st5 b hb
   exact (I7.pin (b,o) (List.mem_append_right _ (List.mem_append_right _ (mem_pinsAt hb e)))).2.1
  cases f with
  | next=>obtain ⟨σ7,H7,ρ7,I7,E7,n7⟩:=q7; exact again I7 E7 n7
  | cont=>obtain ⟨σ7,H7,ρ7,I7,E7,n7⟩:=q7; exact again I7 E7 n7
  | brk=>obtain ⟨σ7,H7,ρ7,I7,E7,q7⟩:=q7; exact ⟨σ7,H7,ρ7,I7.unpinned,E2.narrow E7,q7⟩
  | ret v=>obtain ⟨x7,σ7,H7,r,ρ7,τ,I7,r7,E7,q7⟩:=q7; exact ⟨x7,σ7,H7,r,ρ7,τ,I7.unpinned,r7,E2.narrow E7,q7⟩
 ·
  have e:i=xs.length:=by omega
  subst e
  refine wpAny_passesOwn hp (thn (T.done X rfl rfl rfl hc xs.length pins s3 σ3 H3 X.xe I3 (stat fr3) st3 stop) fun r s4 ⟨hr,I4⟩=>?_)
  subst hr
  rw [List.drop_length] at w3
  exact wpAny_execs_nil ⟨σ3,H3,ρ3,I4,E2.narrow E3,w3⟩
end
end L2
namespace L2
open PySem PySem.Spec PyProof.Rows
section
variable {X:Cx} {e a b c:Expr} {es rest:List Expr} {pos:Pos} {ta tb tc:W L}
def bitsOk (i:Int):Prop:=i.natAbs < 2 ^ 1000000
def opAdd:Op2:=fun x y k=>match x,y with
 | .int i,.int j=>k (.d (.int (i+j)))
 | .str i,.str j=>i.length+j.length≤sizeLine∧k (.d (.str (i++j)))
 | .lst xs,.lst ys=>xs.length+ys.length≤sizeLine∧∀ a,k (.own a (xs++ys))
 | _,_=>False
def opSub:Op2:=fun x y k=>match x,y with
 | .int i,.int j=>k (.d (.int (i - j)))
 | _,_=>False
def opDiv:Op2:=fun x y k=>match x,y with
 | .int i,.int j=>j≠0∧j.natAbs < 2 ^ 9000∧k (.d (.int (i.fdiv j)))
 | _,_=>False
def opMod:Op2:=fun x y k=>match x,y with
 | .int i,.int j=>j≠0∧k (.d (.int (i.fmod j)))
 | _,_=>False
def opPow:Op2:=fun x y k=>match x,y with
 | .int i,.int j=>0≤j∧j≤1000000∧i.natAbs < 2 ^ 64∧k (.d (.int (i ^ j.toNat)))
 | _,_=>False
def opLt:Op2:=fun x y k=>match x,y with
 | .int i,.int j=>k (.d (.bl (decide (i < j))))
 | _,_=>False
def opLe:Op2:=fun x y k=>match x,y with
 | .int i,.int j=>k (.d (.bl (decide (i≤j))))
 | _,_=>False
def opGt:Op2:=fun x y k=>match x,y with
 | .int i,.int j=>k (.d (.bl (decide (j < i))))
 | _,_=>False
def opGe:Op2:=fun x y k=>match x,y with
 | .int i,.int j=>k (.d (.bl (decide (j≤i))))
 | _,_=>False
theorem bitsOk_ok {i j:Int} (h1:bitsOk i) (h2:bitsOk j):IntMulOk i j:=IntMulOk.of_le (PySem.intBits_le_iff.mpr h1) (PySem.intBits_le_iff.mpr h2) (by decide)
theorem opr_mul:OpR X (binaryOp .Mult) (rI (fun i j=>bitsOk i∧bitsOk j) fun i j=>.int (i*j)):=opI fun _ _ _ _ _ _ _ hc q=>mul_int q (bitsOk_ok hc.1 hc.2)
theorem opr_div:OpR X (binaryOp .FloorDiv) (rI (fun i j=>j≠0∧j.natAbs < 2 ^ 9000) fun i j=>.int (i.fdiv j)):=opI fun i j _ _ _ _ _ hc q=>floordiv_int hc.1 q (.inl (PyProof.noPylong_of_log2 ((Nat.log2_lt (by have:=hc.1; omega)).mpr hc.2)))
theorem opr_cat:OpR X (binaryOp .Add) (fun x y H Q=>∃ l b xs zs,x=.ref l∧y=.ref b∧SqL X.K H l xs∧SqL X.K H b zs∧xs.length+zs.length≤sizeLine∧∀ p,H p=none→Q (.ref p) (upd H p (.lst (xs++zs)))):=by
 intro pins s σ H x y v u Q I rx ry h
 obtain ⟨l,b,xs,zs,rfl,rfl,hH,hB,hz,q⟩:=h
 cases rx
 cases ry
 obtain ⟨its,r,⟨o,n,e,c,d,f⟩,z⟩:=I.list hH
 obtain ⟨its2,r2,⟨o2,n2,e2,c2,d2,f2⟩,z2⟩:=I.list hB
 obtain ⟨cl,dd,dt,sl⟩:=o
 obtain ⟨cl2,dd2,dt2,sl2⟩:=o2
 simp only at c f c2 f2
 subst c f c2 f2
 have hl:=r.length
 have hl2:=r2.length
 refine concat_meets ⟨_,e,rfl⟩ ⟨_,e2,rfl⟩ noFill_list_add seq_list_add PySem.F.slot_list_add PySem.F.entry_list_add (PySem.F.args_list_add_2 _ _) (list_addW l b its.toArray its2.toArray n n2 dd dd2 sl sl2 (by rw [List.size_toArray,List.size_toArray]; omega)) ⟨e,e2,?_⟩
 have ea:its.toArray++its2.toArray=(its++its2).toArray:=by simp
 rw [ea]
 exact ⟨.ref _,_,I.lnew (t':=s.toks) (r.append r2) (by rw [List.length_append]; omega),rfl,q _ I.fresh⟩
theorem od_add:OpD X (binaryOp .Add) opAdd:=by
 intro pins s σ H Pr ρ x y v u dx dy post I rx ry E px py ho
 cases px with
 | int i =>
  cases py with
  | int j=>exact OpD.of op_add (op:=fun x y k=>∃ i j,x=.int i∧y=.int j∧k (.d (.int (i+j)))) (fun σ H Pr ρ x y dx dy post E px py ⟨i,j,e1,e2,h⟩=>by subst e1 e2; cases px; cases py; exact ⟨i,j,rfl,rfl,_,E.cons_d (.int _),h⟩) pins s σ H Pr ρ _ _ v u _ _ post I rx ry E (.int i) (.int j) ⟨i,j,rfl,rfl,ho⟩
  | _=>exact ho.elim
 | str i =>
  cases py with
  | str j=>exact OpD.of op_add_str (op:=fun x y k=>∃ i j,x=.str i∧y=.str j∧i.length+j.length≤sizeLine∧k (.d (.str (i++j)))) (fun σ H Pr ρ x y dx dy post E px py ⟨i,j,e1,e2,z,h⟩=>by subst e1 e2; cases px; cases py; exact ⟨i,j,rfl,rfl,z,_,E.cons_d (.str _),h⟩) pins s σ H Pr ρ _ _ v u _ _ post I rx ry E (.str i) (.str j) ⟨i,j,rfl,rfl,ho.1,ho.2⟩
  | _=>exact ho.elim
 | lst h1 r1 =>
  cases py with
  | lst h2 r2 =>
   refine OpD.of opr_cat (op:=fun x y k=>∃ xs ys,x=.lst xs∧y=.lst ys∧xs.length+ys.length≤sizeLine∧∀ a,k (.own a (xs++ys))) (fun σ H Pr ρ x y dx dy post E px py ⟨xs,ys,e1,e2,z,h⟩=>?_) pins s σ H Pr ρ _ _ v u _ _ post I rx ry E (.lst h1 r1) (.lst h2 r2) ⟨_,_,rfl,rfl,ho.1,ho.2⟩
   subst e1 e2
   cases px with
   | lst h1 r1 =>
    cases py with
    | lst h2 r2=>exact ⟨_,_,_,_,rfl,rfl,h1.l,h2.l,by rw [r1.length,r2.length]; exact z,fun p hp=>⟨_,E.cons_own hp (r1.append r2),h p⟩⟩
  | _=>exact ho.elim
 | _=>cases py <;> exact ho.elim
theorem od_int {f:Value→Value→Sem Value} {C:Int→Int→Prop} {g:Int→Int→V} {gd:Int→Int→D} (h:OpR X f (rI C g)) (hg:∀ K H i j,Rep K H (g i j) (gd i j)) :
  OpD X f (fun x y k=>∃ i j,x=.int i∧y=.int j∧C i j∧k (.d (gd i j))) :=
 OpD.of h fun σ H Pr ρ x y dx dy post E px py ⟨i,j,e1,e2,z,h⟩=>by subst e1 e2; cases px; cases py; exact ⟨i,j,rfl,rfl,z,_,E.cons_d (hg _ _ _ _),h⟩
theorem od_int0 {f:Value→Value→Sem Value} {g:Int→Int→V} {gd:Int→Int→D} (h:OpR X f (rI0 g)) (hg:∀ K H i j,Rep K H (g i j) (gd i j)) :
  OpD X f (fun x y k=>∃ i j,x=.int i∧y=.int j∧k (.d (gd i j))) :=
 OpD.of h fun σ H Pr ρ x y dx dy post E px py ⟨i,j,e1,e2,h⟩=>by subst e1 e2; cases px; cases py; exact ⟨i,j,rfl,rfl,_,E.cons_d (hg _ _ _ _),h⟩
theorem od_sub:OpD X (binaryOp .Sub) opSub:=(od_int0 op_sub (gd:=fun i j=>.int (i - j)) fun _ _ _ _=>.int _).imp fun x y k h=>by
 unfold opSub at h
 split at h
 ·
  exact ⟨_,_,rfl,rfl,h⟩
 ·
  exact h.elim
theorem od_mul:OpD X (binaryOp .Mult) (fun x y k=>∃ i j,x=.int i∧y=.int j∧(bitsOk i∧bitsOk j)∧k (.d (.int (i*j)))):=od_int opr_mul (gd:=fun i j=>.int (i*j)) fun _ _ _ _=>.int _
def opMulI:Op2:=fun x y k=>match x,y with
 | .int i,.int j=>bitsOk i∧bitsOk j∧k (.d (.int (i*j)))
 | _,_=>False
theorem od_mulI:OpD X (binaryOp .Mult) opMulI:=od_mul.imp fun x y k h=>by
 unfold opMulI at h
 split at h
 ·
  exact ⟨_,_,rfl,rfl,⟨h.1,h.2.1⟩,h.2.2⟩
 ·
  exact h.elim
theorem od_div:OpD X (binaryOp .FloorDiv) opDiv:=(od_int opr_div (gd:=fun i j=>.int (i.fdiv j)) fun _ _ _ _=>.int _).imp fun x y k h=>by
 unfold opDiv at h
 split at h
 ·
  exact ⟨_,_,rfl,rfl,⟨h.1,h.2.1⟩,h.2.2⟩
 ·
  exact h.elim
theorem od_mod:OpD X (binaryOp .Mod) opMod:=(od_int op_modN (gd:=fun i j=>.int (i.fmod j)) fun _ _ _ _=>.int _).imp fun x y k h=>by
 unfold opMod at h
 split at h
 ·
  exact ⟨_,_,rfl,rfl,h.1,h.2⟩
 ·
  exact h.elim
theorem od_pow:OpD X (binaryOp .Pow) opPow:=(od_int op_pow (gd:=fun i j=>.int (i ^ j.toNat)) fun _ _ _ _=>.int _).imp fun x y k h=>by
 unfold opPow at h
 split at h
 ·
  exact ⟨_,_,rfl,rfl,⟨h.1,h.2.1,h.2.2.1⟩,h.2.2.2⟩
 ·
  exact h.elim
theorem od_lt:OpD X (compareOp .Lt) opLt:=(od_int0 op_lt (gd:=fun i j=>.bl (decide (i < j))) fun _ _ _ _=>.bl _).imp fun x y k h=>by
 unfold opLt at h
 split at h
 ·
  exact ⟨_,_,rfl,rfl,h⟩
 ·
  exact h.elim
theorem od_gt:OpD X (compareOp .Gt) opGt:=(od_int0 op_gt (gd:=fun i j=>.bl (decide (j < i))) fun _ _ _ _=>.bl _).imp fun x y k h=>by
 unfold opGt at h
 split at h
 ·
  exact ⟨_,_,rfl,rfl,h⟩
 ·
  exact h.elim
theorem od_ge:OpD X (compareOp .GtE) opGe:=(od_int0 op_ge (gd:=fun i j=>.bl (decide (j≤i))) fun _ _ _ _=>.bl _).imp fun x y k h=>by
 unfold opGe at h
 split at h
 ·
  exact ⟨_,_,rfl,rfl,h⟩
 ·
  exact h.elim
mutual
def toP:D→PyData
 | .non=>.none
 | .bl b=>.bool b
 | .int i=>.int i
 | .str x=>.str x
 | .tup xs=>.tuple (toPs xs)
 | .lst xs=>.list (toPs xs)
 | .dct _=>.dict []
 | .exc _ _ _=>.dict []
def toPs:List D→List PyData
 | []=>[]
 | x::xs=>toP x::toPs xs
end
def eqD (x y:D):Bool:=PyData.eqv (toP x) (toP y)
def shapeD (x:D):Prop:=SeqAt.shaped (toP x)=true
def opEq:Op2:=fun x y k=>shapeD x∧shapeD y∧k (.d (.bl (eqD x y)))
def opNe:Op2:=fun x y k=>shapeD x∧shapeD y∧k (.d (.bl (!eqD x y)))
mutual
theorem reads_of {pins:List (Addr×Obj)} {σ:St} {H:Hp} {s:Shared} (I:Inv X pins σ H s):∀ (d:D) (x:V) (u:Value),RelV x u→Rep X.K H x d→(toP d).canLay0=true→∃ as,Reads s.heap u (toP d) as
 | .non,_,_,rv,r,_=>by cases r; cases rv; exact ⟨_,.none⟩
 | .bl b,_,_,rv,r,_=>by cases r; cases rv; exact ⟨_,.bool b⟩
 | .int i,_,_,rv,r,_=>by cases r; obtain ⟨t,rfl⟩:=rv; exact ⟨_,.int i t⟩
 | .str z,_,_,rv,r,_=>by cases r; obtain ⟨t,rfl⟩:=rv; exact ⟨_,.str z t⟩
 | .tup xs,_,_,rv,r,hc=>by
  cases r with
  | tup h rs =>
   cases rv
   obtain ⟨its,vs,⟨o,e,c,n,d⟩,_⟩:=I.tuple h
   obtain ⟨as,ra⟩:=readsAll_of I xs _ _ vs rs hc
   exact ⟨_,.tuple (xs:=toPs xs) e c d (by simpa using ra)⟩
 | .lst xs,_,_,rv,r,hc=>by
  cases r with
  | lst h rs =>
   cases rv
   obtain ⟨its,vs,⟨o,n,e,c,_,d⟩,_⟩:=I.list h.l
   obtain ⟨as,ra⟩:=readsAll_of I xs _ _ vs rs hc
   exact ⟨_,.list (xs:=toPs xs) e c d (by simpa using ra)⟩
 | .dct _,_,_,_,_,hc=>nomatch hc
 | .exc _ _ _,_,_,_,_,hc=>nomatch hc
theorem readsAll_of {pins:List (Addr×Obj)} {σ:St} {H:Hp} {s:Shared} (I:Inv X pins σ H s):∀ (ds:List D) (vs:List V) (us:List Value),Vals vs us→Reps X.K H vs ds→PyData.canLayAll0 (toPs ds)=true→∃ as,ReadsAll s.heap us (toPs ds) as
 | [],_,_,rv,r,_=>by cases r; cases rv; exact ⟨_,.nil⟩
 | d::ds,_,_,rv,r,hc=>by
  have hc':(toP d).canLay0=true∧PyData.canLayAll0 (toPs ds)=true:=by simpa [toPs,PyData.canLayAll0] using hc
  cases r with
  | cons r0 rs =>
   cases rv with
   | cons v0 vs =>
    obtain ⟨as,ra⟩:=reads_of I d _ _ v0 r0 hc'.1
    obtain ⟨bs,rb⟩:=readsAll_of I ds _ _ vs rs hc'.2
    exact ⟨_,.cons ra rb⟩
end
theorem od_eq (hu:X.A.units+64 < cLine):OpD X (compareOp .Eq) opEq:=by
 intro pins s σ H Pr ρ x y v u dx dy post I rx ry E px py ⟨h1,h2,ho⟩
 obtain ⟨as,ra⟩:=reads_of I dx x v rx px (SeqAt.canLay_of_shaped h1)
 obtain ⟨bs,rb⟩:=reads_of I dy y u ry py (SeqAt.canLay_of_shaped h2)
 exact eq_dataH ra rb h1 h2 hu ⟨.bl _,H,_,I,rfl,E.cons_d (.bl _),ho⟩
theorem od_ne (hu:X.A.units+64 < cLine):OpD X (compareOp .NotEq) opNe:=by
 intro pins s σ H Pr ρ x y v u dx dy post I rx ry E px py ⟨h1,h2,ho⟩
 obtain ⟨as,ra⟩:=reads_of I dx x v rx px (SeqAt.canLay_of_shaped h1)
 obtain ⟨bs,rb⟩:=reads_of I dy y u ry py (SeqAt.canLay_of_shaped h2)
 exact ne_dataH ra rb h1 h2 hu ⟨.bl _,H,_,I,rfl,E.cons_d (.bl _),ho⟩
def opIx:Op2:=fun x y k=>match x,y with
 | .lst xs,.int i=>∃ v,atI xs i=some v∧k (.d v)
 | .tup xs,.int i=>∃ v,atI xs i=some v∧k (.d v)
 | .str z,.int i=>z.length≤sizeLine∧∃ c,atI z.cps.toList i=some c∧k (.d (.str ⟨#[c]⟩))
 | _,_=>False
theorem atI_rep {K:PySem.W.Frag} {H:Hp} {vs:List V} {xs:List D} (r:Reps K H vs xs) {i:Int} {x:D} (h:atI xs i=some x):∃ v,atI vs i=some v∧Rep K H v x:=by
 unfold atI at h ⊢
 rw [r.length]
 cases q:ixN xs.length i with
 | none=>rw [q] at h; cases h
 | some j =>
  rw [q] at h
  exact r.get h
theorem pl_ix (ha:PL X a ta) (hb:PL X b tb) (hs:PlainIx b):PL X (.Subscript a b pos) (wBin opIx ta tb):=by
 intro pins s σ H Pr ρ post I E h
 refine Subscript_ (two (R:=fun dx dy ρ2=>opIx dx dy fun r=>post r ρ2) ha hb I E h fun v u s2 x y H2 dx dy ρ2 I2 r1 r2 E2 p1 p2 q=>?_)
 have fin:∀ (Q:VK),(∀ z H',Q z H'→∃ r,REnv X.K Pr H' (some z::σ) (r::ρ2)∧post r ρ2)→∀ w s',EP X pins σ Q w s'→EL X pins σ Pr post w s':=fun Q hQ w s' ⟨z,H',I',rz,q⟩=>by
  obtain ⟨r,E',p⟩:=hQ z H' q
  exact ⟨z,H',r,ρ2,I',rz,E',p⟩
 have Eσ:=E2.tail.tail
 cases p2 with
 | int i =>
  cases p1 with
  | lst hz rs =>
   obtain ⟨z,hz',q⟩:=q
   obtain ⟨w,hw,rw⟩:=atI_rep rs hz'
   exact thn (ix_list a b pins s2 σ H2 _ _ v u (fun z H'=>z=w∧H'=H2) I2 r1 r2 ⟨_,_,i,w,rfl,rfl,hz.l,hw,rfl,rfl⟩ (hs _ _)) (fin _ fun z H' ⟨e1,e2⟩=>by subst e1 e2; exact ⟨_,Eσ.cons_d rw,q⟩)
  | tup hz rs =>
   obtain ⟨z,hz',q⟩:=q
   obtain ⟨w,hw,rw⟩:=atI_rep rs hz'
   exact thn (ix_tup a b pins s2 σ H2 _ _ v u (fun z H'=>z=w∧H'=H2) I2 r1 r2 ⟨_,_,i,w,rfl,rfl,hz,hw,rfl,rfl⟩ (hs _ _)) (fin _ fun z H' ⟨e1,e2⟩=>by subst e1 e2; exact ⟨_,Eσ.cons_d rw,q⟩)
  | str z =>
   obtain ⟨hz,c,hc,q⟩:=q
   exact thn (ix_str a b pins s2 σ H2 _ _ v u (fun z H'=>z=.str ⟨#[c]⟩∧H'=H2) I2 r1 r2 ⟨z,i,c,rfl,rfl,hz,hc,rfl,rfl⟩ (hs _ _)) (fin _ fun z H' ⟨e1,e2⟩=>by subst e1 e2; exact ⟨_,Eσ.cons_d (.str _),q⟩)
  | _=>exact q.elim
 | _=>cases p1 <;> exact q.elim
end
end L2
namespace L2
open PySem PySem.Spec PyProof.Rows
section
variable {X:Cx} {e a b c:Expr} {es rest:List Expr} {pos p apos:Pos} {ta tb tc:W L} {x:Str} {bs:List (Option Nat)} {t:W (List L)} {id T:String}
abbrev OpN:=List D→(L→Prop)→Prop
def CallD (X:Cx) (f:Value) (op:OpN):Prop :=
 ∀ (pins:List (Addr×Obj)) (s:Shared) (σ:St) (H Pr:Hp) (ρ:Ev) (vs:List V) (us:List Value) (ds:List D) (post:L→Prop),Inv X pins σ H s→Vals vs us→REnv X.K Pr H σ ρ→Reps X.K H vs ds→op ds post →
  wpAny (model X.prog X.w) X.A (call f us) (fun w s'=>∃ z H' r,Inv X pins σ H' s'∧RelV z w∧REnv X.K Pr H' (some z::σ) (r::ρ)∧post r) X.xe s
theorem CallD.of {f:Value} {r:List V→Hp→VK→Prop} {op:OpN} (h:CallR X f r) (q:∀ σ H Pr ρ vs ds post,REnv X.K Pr H σ ρ→Reps X.K H vs ds→op ds post→r vs H fun z H'=>∃ r,REnv X.K Pr H' (some z::σ) (r::ρ)∧post r):CallD X f op :=
 fun pins s σ H Pr ρ vs us ds post I rv E ps ho=>thn (h pins s σ H vs us _ I rv (q σ H Pr ρ vs ds post E ps ho)) fun w s' ⟨z,H',I',rz,r,E',p⟩=>⟨z,H',r,I',rz,E',p⟩
def wCallD (op:OpN) (t:W (List L)):W L:=fun ρ post=>t ρ fun ls ρ1=>toDs ls fun ds=>op ds fun r=>post r ρ1
theorem pl_callD (hc:CallD X (.builtin id) op) (hg:Gl X x) (hm:X.mg x=none) (hv:bootBuiltins x=some (.builtin id)) (ha:PAL X (e::es) bs t) (hn:x≠"__name__":=by decide) (hdb:(x == ("__debug__" : Str))=false:=by decide)
  (he:starEach (e::es) X.env=(false,eval e X.env)::starEach es X.env:=by rfl) (hpl:(backTo pos (starEach es X.env)).any (·.1)=false:=by rfl):PL X (.Call (.Name x p) (e::es) [] pos) (wCallD op t):=by
 intro pins s σ H Pr ρ post I E h
 refine wpAny_Call_Name_kw (ld_blt I hg hm hv ?_ hn hdb)
 refine PyProof.Rows.callWith_builtin1 (thn (ha pos pins s σ H Pr ρ _ I E h) fun us s1 ⟨vs,H1,ls,ρ1,I1,r1,hl,hb,E1,_,q1⟩=>?_) he hpl
 obtain ⟨ds,rfl,q2⟩:=toDs_is q1
 have hlen:vs.length=ds.length:=by simpa using hl
 exact thn (hc pins s1 σ H1 Pr ρ1 vs us ds _ I1 r1 (E1.drop (by simp [hlen])) (reps_of hlen E1) q2) fun w s2 ⟨z,H2,r,I2,rz,E2,q⟩=>⟨z,H2,r,ρ1,I2,rz,E2,q⟩
theorem pl_callTD (hc:CallD X (.type T) op) (hg:Gl X x) (hm:X.mg x=none) (hv:bootBuiltins x=some (.type T)) (ha:PAL X (e::es) bs t) (hn:x≠"__name__":=by decide) (hdb:(x == ("__debug__" : Str))=false:=by decide)
  (he:starEach (e::es) X.env=(false,eval e X.env)::starEach es X.env:=by rfl) (hpl:(backTo pos (starEach es X.env)).any (·.1)=false:=by rfl):PL X (.Call (.Name x p) (e::es) [] pos) (wCallD op t):=by
 intro pins s σ H Pr ρ post I E h
 refine wpAny_Call_Name_kw (ld_blt I hg hm hv ?_ hn hdb)
 refine PyProof.Rows.callWith_type1 (thn (ha pos pins s σ H Pr ρ _ I E h) fun us s1 ⟨vs,H1,ls,ρ1,I1,r1,hl,hb,E1,_,q1⟩=>?_) he hpl
 obtain ⟨ds,rfl,q2⟩:=toDs_is q1
 have hlen:vs.length=ds.length:=by simpa using hl
 exact thn (hc pins s1 σ H1 Pr ρ1 vs us ds _ I1 r1 (E1.drop (by simp [hlen])) (reps_of hlen E1) q2) fun w s2 ⟨z,H2,r,I2,rz,E2,q⟩=>⟨z,H2,r,ρ1,I2,rz,E2,q⟩
def opLen:OpN:=fun ds k=>match ds with
 | [.lst xs]=>k (.d (.int xs.length))
 | [.tup xs]=>k (.d (.int xs.length))
 | [.str x]=>x.length≤sizeLine∧k (.d (.int x.length))
 | _=>False
theorem reps1 {K:PySem.W.Frag} {H:Hp} {vs:List V} {d:D} (r:Reps K H vs [d]):∃ v,vs=[v]∧Rep K H v d:=by
 cases r with
 | cons h t=>cases t; exact ⟨_,rfl,h⟩
theorem reps2 {K:PySem.W.Frag} {H:Hp} {vs:List V} {d d':D} (r:Reps K H vs [d,d']):∃ v w,vs=[v,w]∧Rep K H v d∧Rep K H w d':=by
 cases r with
 | cons h t=>cases t with
  | cons h' t=>cases t; exact ⟨_,_,rfl,h,h'⟩
theorem cd_len:CallD X (.builtin "len") opLen:=CallD.of (call_len_seq.or call_len_str) fun σ H Pr ρ vs ds post E ps h=>by
 unfold opLen at h
 split at h
 ·
  obtain ⟨v,rfl,r⟩:=reps1 ps
  cases r with
  | lst hz rs=>exact .inl ⟨_,_,rfl,.inl hz.l,_,E.cons_d (.int _),by rw [rs.length]; exact h⟩
 ·
  obtain ⟨v,rfl,r⟩:=reps1 ps
  cases r with
  | tup hz rs=>exact .inl ⟨_,_,rfl,.inr hz,_,E.cons_d (.int _),by rw [rs.length]; exact h⟩
 ·
  obtain ⟨v,rfl,r⟩:=reps1 ps
  cases r with
  | str z=>exact .inr ⟨_,rfl,h.1,_,E.cons_d (.int _),h.2⟩
 ·
  exact h.elim
def opAbs:OpN:=fun ds k=>match ds with
 | [.int i]=>k (.d (.int (if i < 0 then -i else i)))
 | _=>False
theorem cd_abs:CallD X (.builtin "abs") opAbs:=CallD.of call_abs fun σ H Pr ρ vs ds post E ps h=>by
 unfold opAbs at h
 split at h
 ·
  obtain ⟨v,rfl,r⟩:=reps1 ps
  cases r with
  | int i=>exact ⟨_,rfl,_,E.cons_d (.int _),h⟩
 ·
  exact h.elim
def opMax:OpN:=fun ds k=>match ds with
 | [.int i,.int j]=>k (.d (.int (if j > i then j else i)))
 | _=>False
def opMin:OpN:=fun ds k=>match ds with
 | [.int i,.int j]=>k (.d (.int (if j < i then j else i)))
 | _=>False
theorem cd_max (hc:X.calm=true):CallD X (.builtin "max") opMax:=CallD.of (call_max2 hc) fun σ H Pr ρ vs ds post E ps h=>by
 unfold opMax at h
 split at h
 ·
  obtain ⟨v,w,rfl,r,r'⟩:=reps2 ps
  cases r with
  | int i=>cases r' with
   | int j=>exact ⟨_,_,rfl,_,E.cons_d (.int _),h⟩
 ·
  exact h.elim
theorem cd_min (hc:X.calm=true):CallD X (.builtin "min") opMin:=CallD.of (call_min2 hc) fun σ H Pr ρ vs ds post E ps h=>by
 unfold opMin at h
 split at h
 ·
  obtain ⟨v,w,rfl,r,r'⟩:=reps2 ps
  cases r with
  | int i=>cases r' with
   | int j=>exact ⟨_,_,rfl,_,E.cons_d (.int _),h⟩
 ·
  exact h.elim
def opInt:OpN:=fun ds k=>match ds with
 | [.int i]=>k (.d (.int i))
 | [.bl b]=>k (.d (.int (if b then 1 else 0)))
 | _=>False
theorem cd_int:CallD X (.type "int") opInt:=CallD.of call_int1 fun σ H Pr ρ vs ds post E ps h=>by
 unfold opInt at h
 split at h
 ·
  obtain ⟨v,rfl,r⟩:=reps1 ps
  cases r with
  | int i=>exact .inl ⟨_,rfl,_,E.cons_d (.int _),h⟩
 ·
  obtain ⟨v,rfl,r⟩:=reps1 ps
  cases r with
  | bl i=>exact .inr ⟨_,rfl,_,E.cons_d (.int _),h⟩
 ·
  exact h.elim
def opList:OpN:=fun ds k=>match ds with
 | [.lst xs]=>∀ a,k (.own a xs)
 | [.tup xs]=>∀ a,k (.own a xs)
 | _=>False
theorem cd_list:CallD X (.type "list") opList:=CallD.of call_list_of fun σ H Pr ρ vs ds post E ps h=>by
 unfold opList at h
 split at h
 ·
  obtain ⟨v,rfl,r⟩:=reps1 ps
  cases r with
  | lst hz rs=>exact ⟨_,_,rfl,.inl hz.l,fun l hl=>⟨_,E.cons_own hl rs,h l⟩⟩
 ·
  obtain ⟨v,rfl,r⟩:=reps1 ps
  cases r with
  | tup hz rs=>exact ⟨_,_,rfl,.inr hz,fun l hl=>⟨_,E.cons_own hl rs,h l⟩⟩
 ·
  exact h.elim
def tyD:D→Value
 | .non=>.type "NoneType"
 | .bl _=>.type "bool"
 | .int _=>.type "int"
 | .str _=>.type "str"
 | .tup _=>.type "tuple"
 | .lst _=>.type "list"
 | .dct _=>.type "dict"
 | .exc _ _ _=>.none
def TyD (K:PySem.W.Frag) (d:D) (t:Value):Prop:=match d with
 | .exc c _ _=>∃ C,t=.ref C∧excStd K c C=true
 | d=>t=tyD d
theorem exc_inst {pins:List (Addr×Obj)} {σ:St} {H:Hp} {s:Shared} {a:Addr} {o:Obj} {u:HO} {C:Addr} {ns:List Str} {vs:List V} (I:Inv X pins σ H s) (h:H a=some (.frz o u)) (hc:o.cls=.ref C) (hn:PySem.W.notCls o=true) (hf:XF H o.dict ns vs):∃ od,PySem.W.InstAt s.heap a o C od∧∀ d,o.dict=some d→∃ q,od=some q∧s.heap.get? d=some q:=by
 have e:=(show s.heap.get? a=some o∧_ from I.hok a _ h).1
 rcases hf with ⟨_,_,z⟩ | ⟨d,od,z,h2,_⟩
 ·
  exact ⟨none,⟨e,hc,hn,by rw [z]; trivial⟩,fun d q=>by rw [z] at q; cases q⟩
 ·
  have e2:=(show s.heap.get? d=some od∧_ from I.hok d _ h2).1
  exact ⟨some od,⟨e,hc,hn,by rw [z]; exact e2⟩,fun d' q=>by rw [z] at q; cases q; exact ⟨od,rfl,e2⟩⟩
theorem isinst_D {pins:List (Addr×Obj)} {σ:St} {H:Hp} {s:Shared} {x:V} {u c:Value} {d:D} {b:Bool} {Q:Value→Shared→Prop} {A:Around} {E:Value→Shared→Prop} (I:Inv X pins σ H s) (rx:RelV x u) (r:Rep X.K H x d) (e:∀ t,TyD X.K d t→PySem.W.kitOne X.K t c=some b) (h:∀ tk,Q (.bool b) { s with toks:=tk }) :
  wpAny (model X.prog X.w) A (call (.builtin "isinstance") [u,c]) Q E s:=by
 cases r with
 | non=>cases rx; exact PySem.W.kia_one PySem.W.kitx_none I.kIn True.intro (e _ rfl) (fun z=>nomatch z) h
 | bl y=>cases rx; exact PySem.W.kia_one PySem.W.kitx_bool I.kIn True.intro (e _ rfl) (fun z=>nomatch z) h
 | int i=>obtain ⟨t,rfl⟩:=rx; exact PySem.W.kia_one PySem.W.kitx_int I.kIn True.intro (e _ rfl) (fun z=>nomatch z) h
 | str y=>obtain ⟨t,rfl⟩:=rx; exact PySem.W.kia_one PySem.W.kitx_str I.kIn True.intro (e _ rfl) (fun z=>nomatch z) h
 | lst hz rs =>
  cases rx
  obtain ⟨its,_,⟨o,n,e1,c1,_,_⟩,_⟩:=I.list hz.l
  exact PySem.W.kia_one PySem.W.kitx_list I.kIn ⟨o,e1,c1⟩ (e _ rfl) (fun z=>nomatch z) h
 | tup hz rs =>
  cases rx
  obtain ⟨its,_,⟨o,e1,c1,_⟩,_⟩:=I.tuple hz
  exact PySem.W.kia_one PySem.W.kitx_tuple I.kIn ⟨o,e1,c1⟩ (e _ rfl) (fun z=>nomatch z) h
 | @dct a o kvs hz =>
  cases rx
  obtain ⟨_,_,_,vs,_,o',es,ep,h1,h2,_⟩:=(show ObjOk X.prog X.w H s.heap a (.frz o (.dK kvs)) from I.hok a _ hz)
  exact PySem.W.kia_one PySem.W.kitx_dict I.kIn ⟨o',h1,h2.1⟩ (e _ rfl) (fun z=>nomatch z) h
 | @exc a o u cc C ns vs ds h1 hv hc hn hs hq hf rs =>
  cases rx
  obtain ⟨od,Ia,_⟩:=exc_inst I h1 hc hn hf
  obtain ⟨LL,cd,S⟩:=excStd_is hs
  exact PySem.W.kia_one (kitx_exc S) I.kIn ⟨_,_,Ia⟩ (e _ ⟨C,rfl,hs⟩) (fun z=>nomatch z) h
def isTy (T:String):D→Bool
 | .non=>T == "NoneType"
 | .bl _=>T == "bool" || T == "int"
 | .int _=>T == "int"
 | .str _=>T == "str"
 | .tup _=>T == "tuple"
 | .lst _=>T == "list"
 | .dct _=>T == "dict"
 | .exc _ _ _=>(["ValueError","Exception","BaseException","object"]:List String).contains T
def opIsT (T:String):D→(L→Prop)→Prop:=fun d k=>k (.d (.bl (isTy T d)))
theorem pl_isT {T:String} {y:Str} {py:Pos} (hT:∀ K d t,TyD K d t→PySem.W.kitOne K t (.type T)=some (isTy T d)) (hg:Gl X "isinstance") (hm:X.mg "isinstance"=none) (hy:Gl X y) (hmy:X.mg y=none) (hby:bootBuiltins y=some (.type T)) (ha:PL X a ta)
  (hny:y≠"__name__":=by decide) (hdy:(y == ("__debug__" : Str))=false:=by decide)
  (h1:starEach [a,.Name y py] X.env=(false,eval a X.env)::starEach [.Name y py] X.env:=by rfl) (h2:starEach [.Name y py] X.env=[(false,eval (.Name y py) X.env)]:=by rfl) (hpl:(backTo pos (starEach [.Name y py] X.env)).any (·.1)=false:=by rfl) :
  PL X (.Call (.Name "isinstance" p) [a,.Name y py] [] pos) (wUn (opIsT T) ta):=by
 have cr:CallR X (.builtin "isinstance") (fun xs H Q=>∃ x d,xs=[x,.ty T]∧Rep X.K H x d∧Q (.bl (isTy T d)) H):=by
  intro pins s σ H xs us Q I rv h
  obtain ⟨x,d,rfl,r,q⟩:=h
  obtain ⟨u,w,rfl,r1,r2⟩:=vals2 rv
  cases r2
  exact isinst_D I r1 r (hT _ d) fun tk=>⟨.bl _,H,I.tok _,rfl,q⟩
 refine PL.of (pe_callB cr hg hm (by decide +kernel) (pa_cons (pl_frz ha).pe (pa_cons (pe_bltn hy hmy hby (v:=.ty T) rfl hny hdy) pa_nil h2) h1) (he:=h1) (hpl:=hpl)) fun σ H Pr ρ post E h=>?_
 refine ⟨Pr,ρ,fun r ρ1=>match r with
  | .d x=>opIsT T x fun r=>post r ρ1
  | _=>False,E,h,fun v H' r ρ' E' p=>?_⟩
 cases r with
 | d x =>
  obtain ⟨_,e1,p1⟩:=E'.head_d
  cases e1
  exact ⟨_,x,rfl,p1,_,ρ',E'.tail.cons_d (.bl _),p⟩
 | _=>exact p.elim
end
end L2
namespace L2
open PySem PySem.Spec PyProof.Rows
section
variable {X:Cx} {e a b c:Expr} {es rest:List Expr} {pos p apos cpos:Pos} {ta tb tc te:W L} {x:Str}
theorem REnv.updOwn {K:PySem.W.Frag} {Pr H:Hp} {σ:St} {ρ:Ev} {i:Nat} {l:Addr} {xs ys:List D} {vs:List V} (E:REnv K Pr H σ ρ) (q:ρ[i]?=some (.own l xs)) (r:Reps K H vs ys):REnv K Pr (upd H l (.lst vs)) σ (ρ.set i (.own l ys)):=by
 obtain ⟨sv,hs,rfl,_⟩:=E.slot q
 have hi:i < ρ.length:=(List.getElem?_eq_some_iff.mp q).1
 have E1:=(E.out q).write r
 have E2:=E1.back (i:=i) (by simp [hi]) hs
 rw [List.set_set] at E2
 exact E2
theorem REnv.ownAt {K:PySem.W.Frag} {Pr H:Hp} {σ:St} {ρ:Ev} {i:Nat} {l:Addr} {xs:List D} (E:REnv K Pr H σ ρ) (q:ρ[i]?=some (.own l xs)):σ[i]?=some (some (.ref l))∧∃ vs,H l=some (.lst vs)∧Reps K H vs xs:=by
 obtain ⟨sv,hs,rfl,r⟩:=E.slot q
 exact ⟨hs,r⟩
def ownV (i:Nat) (ρ:Ev) (k:Addr→List D→Prop):Prop:=match ρ[i]? with
 | some (.own a xs)=>k a xs
 | _=>False
theorem ownV_is {i:Nat} {ρ:Ev} {k:Addr→List D→Prop} (h:ownV i ρ k):∃ a xs,ρ[i]?=some (.own a xs)∧k a xs:=by
 unfold ownV at h
 cases q:ρ[i]? with
 | none=>rw [q] at h; exact h.elim
 | some l =>
  rw [q] at h
  cases l with
  | own a xs=>exact ⟨a,xs,rfl,h⟩
  | un=>exact h.elim
  | d x=>exact h.elim
  | bx _ _=>exact h.elim
  | dic _ _=>exact h.elim
def wApp (i:Nat) (te:W L):W L:=fun ρ post=>ownV i ρ fun _ _=>te ρ fun r ρ1=>toD r fun y=>ownV i ρ1 fun a xs=>xs.length < sizeLine∧post (.d .non) (ρ1.set i (.own a (xs++[y])))
theorem pl_append (i:Nat) (he:PL X e te) (hN:X.N[i]?=some x:=by rfl) (hv:Vis X.env.scope x:=by first | exact Or.inl rfl | exact Or.inr (Or.inl rfl) | exact Or.inr (Or.inr rfl)) (hd:(x == ("__debug__" : Str))=false:=by decide)
  (hcd:(x == ("__classdict__" : Str))=false:=by decide) (hs1:starEach [e] X.env=[(false,eval e X.env)]:=by rfl) (hbase:attributeBase (.Name x p) "append" X.env (eval (.Name x p) X.env)=eval (.Name x p) X.env:=by rfl)
  (hfew:((backTo cpos (starEach [e] X.env)).all (fun x=>!x.1) && (backToKw cpos (keywordEach [] X.env)).all (fun x=>x.1.isSome)
   && decide (([e]).length+([]:List Keyword).length+(if ([]:List Keyword).isEmpty then 0 else 1) < 30))=true:=by rfl)
  (hline:(apos.endLine == cpos.line)=true:=by rfl) (hplain:(backTo cpos (starEach ([]:List Expr) X.env)).any (·.1)=false:=by rfl) :
  PL X (.Call (.Attribute (.Name x p) "append" apos) [e] [] cpos) (wApp i te):=by
 refine PL.of (pe_bm PySem.F.plainAttrs_list PySem.F.slot_list_append PySem.F.type_list_append mt_append (pe_var hN hv hd hcd) (pa_cons (pl_frz he).pe pa_nil hs1) (hbase:=hbase) (hfew:=hfew) (hline:=hline) (hs:=hs1) (hplain:=hplain)) fun σ H Pr ρ post E h=>?_
 obtain ⟨l,xs0,q0,h⟩:=ownV_is h
 obtain ⟨hσ,vs0,hl0,_⟩:=E.ownAt q0
 refine ⟨.ref l,hσ,.inl ⟨rfl,vs0,SqL.of hl0⟩,Pr,ρ,fun r ρ1=>match r with
  | .d y=>ownV i ρ1 fun a xs=>xs.length < sizeLine∧post (.d .non) (ρ1.set i (.own a (xs++[y])))
  | _=>False,E,h,fun v H' r ρ' E' pp=>?_⟩
 cases r with
 | d y =>
  obtain ⟨l',xs,q,hlen,pp⟩:=ownV_is pp
  obtain ⟨hσ',vs,hl,r⟩:=E'.tail.ownAt q
  rw [hσ] at hσ'
  cases hσ'
  obtain ⟨_,e1,p1⟩:=E'.head_d
  cases e1
  exact ⟨l,vs,v,rfl,rfl,hl,by rw [r.length]; exact hlen,_,_,(E'.tail.updOwn q (r.append (.cons p1 .nil))).cons_d .non,pp⟩
 | _=>exact pp.elim
def wIxV (i:Nat) (tb:W L):W L:=fun ρ post=>ownV i ρ fun _ _=>tb ρ fun r ρ1=>toInt r fun j=>ownV i ρ1 fun _ xs=>∃ y,atI xs j=some y∧post (.d y) ρ1
theorem pl_ixV (i:Nat) (hb:PL X b tb) (hs:PlainIx b) (hN:X.N[i]?=some x:=by rfl) (hv:Vis X.env.scope x:=by first | exact Or.inl rfl | exact Or.inr (Or.inl rfl) | exact Or.inr (Or.inr rfl)) (hd:(x == ("__debug__" : Str))=false:=by decide)
  (hcd:(x == ("__classdict__" : Str))=false:=by decide):PL X (.Subscript (.Name x p) b pos) (wIxV i tb):=by
 refine PL.of (pe_ix ix_list (pe_var hN hv hd hcd) hb.pe hs) fun σ H Pr ρ post E h=>?_
 obtain ⟨l,xs0,q0,h⟩:=ownV_is h
 obtain ⟨hσ,vs0,hl0,_⟩:=E.ownAt q0
 refine ⟨.ref l,hσ,Pr,ρ,_,E,h,fun v H' r ρ' E' pp=>?_⟩
 obtain ⟨j,rfl,pp⟩:=toInt_is pp
 obtain ⟨l',xs,q,y,hy,pp⟩:=ownV_is pp
 obtain ⟨hσ',vs,hl,r⟩:=E'.tail.ownAt q
 rw [hσ] at hσ'
 cases hσ'
 obtain ⟨_,e1,p1⟩:=E'.head_d
 cases e1
 cases p1
 obtain ⟨w,hw,rw⟩:=atI_rep r hy
 exact ⟨l,vs,j,w,rfl,rfl,SqL.of hl,hw,_,ρ',E'.tail.cons_d rw,pp⟩
def wLenV (i:Nat):W L:=fun ρ post=>ownV i ρ fun _ xs=>post (.d (.int xs.length)) ρ
theorem pl_lenV (i:Nat) (hg:Gl X "len") (hm:X.mg "len"=none) (hN:X.N[i]?=some x:=by rfl) (hv:Vis X.env.scope x:=by first | exact Or.inl rfl | exact Or.inr (Or.inl rfl) | exact Or.inr (Or.inr rfl)) (hd:(x == ("__debug__" : Str))=false:=by decide)
  (hcd:(x == ("__classdict__" : Str))=false:=by decide) (h1:starEach [.Name x p] X.env=[(false,eval (.Name x p) X.env)]:=by rfl) (hpl:(backTo pos (starEach ([]:List Expr) X.env)).any (·.1)=false:=by rfl) :
  PL X (.Call (.Name "len" apos) [.Name x p] [] pos) (wLenV i):=by
 refine PL.of (pe_callB call_len_seq hg hm PySem.boot_len (pa_cons (pe_var hN hv hd hcd) pa_nil h1) (he:=h1) (hpl:=hpl)) fun σ H Pr ρ post E h=>?_
 obtain ⟨l,xs0,q0,h⟩:=ownV_is h
 obtain ⟨hσ,vs0,hl0,r⟩:=E.ownAt q0
 exact ⟨.ref l,hσ,l,vs0,rfl,.inl (SqL.of hl0),_,ρ,E.cons_d (.int _),by rw [r.length]; exact h⟩
def wSetV (i:Nat) (tb te:W L):W Fl:=fun ρ post=>te ρ fun r ρ1=>toD r fun y=>ownV i ρ1 fun _ _=>tb ρ1 fun r ρ2=>toInt r fun j=>ownV i ρ2 fun a xs=>∃ k,ixN xs.length j=some k∧post .nx (ρ2.set i (.own a (xs.set k y)))
theorem pm_setV (i:Nat) {b:Expr} {ps:Pos} (hb:PL X b tb) (he:PL X e te) (hN:X.N[i]?=some x:=by rfl) (hv:Vis X.env.scope x:=by first | exact Or.inl rfl | exact Or.inr (Or.inl rfl) | exact Or.inr (Or.inr rfl)) (hd:(x == ("__debug__" : Str))=false:=by decide)
  (hcd:(x == ("__classdict__" : Str))=false:=by decide)
  (ha:∀ v,assign (.Subscript (.Name x p) b ps) X.env v=(do
   let ov ← holding [v] (eval (.Name x p) X.env)
   let iv ← holding [v,ov] (eval b X.env)
   standAt ps
   holding [v,ov,iv] (setItem ov iv v)
   release [v,ov,iv] []):=by intro _; rfl)
  (hs:swapsWithSole [.Subscript (.Name x p) b ps] e pos.line X.env=pure false:=by rfl) (hw:swappedStores [.Subscript (.Name x p) b ps] e X.env=pure none:=by rfl)
  (h1:(assignEach [.Subscript (.Name x p) b ps] X.env).map (·.2)=[assign (.Subscript (.Name x p) b ps) X.env]:=by rfl):PM X (.Assign [.Subscript (.Name x p) b ps] e pos) (wSetV i tb te):=by
 refine PM.of (ps_asg (pl_frz he).pe (pg_sub (pe_var hN hv hd hcd) hb.pe set_list ha) hs hw h1) fun σ H Pr ρ post hlen E h=>?_
 refine ⟨Pr,ρ,fun r ρ1=>match r with
  | .d y=>ownV i ρ1 fun _ _=>tb ρ1 fun r ρ2=>toInt r fun j=>ownV i ρ2 fun a xs=>∃ k,ixN xs.length j=some k∧post .nx (ρ2.set i (.own a (xs.set k y)))
  | _=>False,E,h,fun v H' r ρ' E' pp=>?_⟩
 cases r with
 | d y =>
  obtain ⟨l,xs0,q0,pp⟩:=ownV_is pp
  obtain ⟨hσ,vs0,hl0,_⟩:=E'.tail.ownAt q0
  refine ⟨.ref l,hσ,butOwn H' ρ',ρ',_,E'.tail.wide,pp,fun w H2 r2 ρ2 E2 pp=>?_⟩
  obtain ⟨j,rfl,pp⟩:=toInt_is pp
  obtain ⟨l',xs,q,k,hk,pp⟩:=ownV_is pp
  obtain ⟨_,e1,p1⟩:=E2.head_d
  cases e1
  cases p1
  have E3:REnv X.K Pr H2 (some (.int j)::some v::σ) (.d (.int j)::.d y::ρ2):=REnv.step (τ:=[some v]) (lam:=[.d y]) (w:=[some (.int j)]) (μ:=[.d (.int j)]) E' rfl E2 rfl
  obtain ⟨_,e1,p1⟩:=E3.tail.head_d
  cases e1
  obtain ⟨hσ',vs,hl,r⟩:=E3.tail.tail.ownAt q
  rw [hσ] at hσ'
  cases hσ'
  refine ⟨l,vs,j,k,rfl,rfl,hl,by rw [r.length]; exact hk,_,E3.tail.tail.updOwn q (r.set p1 k),pp⟩
 | _=>exact pp.elim
def wPart:Option (W L)→Ev→(Option Int→Ev→Prop)→Prop
 | none=>fun ρ k=>k none ρ
 | some t=>fun ρ k=>t ρ fun r ρ1=>toInt r fun i=>k (some i) ρ1
def cutD {α:Type} (xs:List α) (lo hi:Option Int):List α:=(xs.drop (HT.sIx xs.length 0 lo)).take (HT.sIx xs.length xs.length hi - HT.sIx xs.length 0 lo)
end
end L2
namespace L2
open PySem PySem.Spec PyProof.Rows
def unsAt:List Nat→Ev→Ev
 | [],ρ=>ρ
 | j::r,ρ=>(unsAt r ρ).set j .un
def capsOf (fi:List Nat) (ρ:Ev):Ev:=fi.map fun j=>(ρ[j]?).getD .un
def capSt (fi:List Nat) (σ:St):St:=fi.map fun j=>(σ[j]?).getD none
def putAll:List Nat→Ev→Ev→Ev
 | j::r,c::cs,ρ=>putAll r cs (ρ.set j c)
 | _,_,ρ=>ρ
theorem unsAt_len:∀ (fi:List Nat) (ρ:Ev),(unsAt fi ρ).length=ρ.length
 | [],_=>rfl
 | j::r,ρ=>by unfold unsAt; rw [List.length_set,unsAt_len r ρ]
theorem unsAt_get:∀ (fi:List Nat) (ρ:Ev) (j:Nat),j∉fi→(unsAt fi ρ)[j]?=ρ[j]?
 | [],_,_,_=>rfl
 | i::r,ρ,j,h=>by
  unfold unsAt
  rw [List.getElem?_set_ne (fun e=>h (by simp [e])),unsAt_get r ρ j fun e=>h (List.mem_cons_of_mem _ e)]
theorem unsAt_un:∀ (fi:List Nat) (ρ:Ev) (j:Nat),j∈fi→j < ρ.length→(unsAt fi ρ)[j]?=some .un
 | i::r,ρ,j,h,hl=>by
  unfold unsAt
  by_cases e:i=j
  ·
   subst e
   rw [List.getElem?_set_self (by rw [unsAt_len]; exact hl)]
  ·
   rw [List.getElem?_set_ne e]
   exact unsAt_un r ρ j ((List.mem_cons.mp h).resolve_left fun z=>e z.symm) hl
section
variable {K:PySem.W.Frag} {Pr H H':Hp} {σ τ σ' w:St} {ρ μ lam ρ':Ev}
theorem REnv.takeAt (E:REnv K Pr H σ ρ) {i:Nat} {l:L} {s:Option V} (h:ρ[i]?=some l) (hs:σ[i]?=some s):REnv K Pr H (s::σ) (l::ρ.set i .un):=E.outL h hs
theorem REnv.takes (E:REnv K Pr H σ ρ):∀ (fi:List Nat),fi.Nodup→(∀ j∈fi,j < ρ.length)→REnv K Pr H (capSt fi σ++σ) (capsOf fi ρ++unsAt fi ρ)
 | [],_,_=>E
 | j::r,nd,hl=>by
  have ih:=E.takes r (List.nodup_cons.mp nd).2 fun i hi=>hl i (List.mem_cons_of_mem _ hi)
  have hj:j < ρ.length:=hl j List.mem_cons_self
  have hjs:j < σ.length:=by rw [E.len]; exact hj
  have e1:(capsOf r ρ++unsAt r ρ)[r.length+j]?=some ρ[j]:=by
   rw [List.getElem?_append_right (by simp [capsOf])]
   simp only [capsOf,List.length_map,Nat.add_sub_cancel_left]
   rw [unsAt_get r ρ j (List.nodup_cons.mp nd).1]
   exact List.getElem?_eq_getElem hj
  have e2:(capSt r σ++σ)[r.length+j]?=some σ[j]:=by
   rw [List.getElem?_append_right (by simp [capSt])]
   simp only [capSt,List.length_map,Nat.add_sub_cancel_left]
   exact List.getElem?_eq_getElem hjs
  have z:=ih.takeAt e1 e2
  rw [List.set_append_right _ _ (by simp [capsOf])] at z
  simp only [capsOf,List.length_map,Nat.add_sub_cancel_left] at z
  have c1:capSt (j::r) σ=σ[j]::capSt r σ:=by simp [capSt,hjs]
  have c2:capsOf (j::r) ρ=ρ[j]::capsOf r ρ:=by simp [capsOf,hj]
  rw [c1,c2]
  exact z
theorem REnv.backs:∀ (fi:List Nat) {cs ρ:Ev},fi.Nodup→cs.length=fi.length→(∀ j∈fi,ρ[j]?=some .un)→(∀ j∈fi,j < σ.length)→REnv K Pr H (capSt fi σ++σ) (cs++ρ)→REnv K Pr H σ (putAll fi cs ρ)
 | [],[],ρ,_,_,_,_,E=>E
 | j::r,c::cs,ρ,nd,hl,hu,hs,E=>by
  have hjs:j < σ.length:=hs j List.mem_cons_self
  have hj:=hu j List.mem_cons_self
  have c1:capSt (j::r) σ=σ[j]::capSt r σ:=by simp [capSt,hjs]
  rw [c1] at E
  have hlr:cs.length=r.length:=by simpa using hl
  have z:=REnv.back (σ:=capSt r σ++σ) (ρ:=cs++ρ) (l:=c) E (i:=r.length+j) (by
   rw [List.getElem?_append_right (by omega),hlr,Nat.add_sub_cancel_left]; exact hj) (by
   rw [List.getElem?_append_right (by simp [capSt])]
   simp only [capSt,List.length_map,Nat.add_sub_cancel_left]
   exact List.getElem?_eq_getElem hjs)
  rw [List.set_append_right _ _ (by omega),hlr,Nat.add_sub_cancel_left] at z
  exact REnv.backs r (List.nodup_cons.mp nd).2 hlr (fun i hi=>by
   rw [List.getElem?_set_ne (fun e=>(List.nodup_cons.mp nd).1 (by rw [e]; exact hi))]; exact hu i (List.mem_cons_of_mem _ hi)) (fun i hi=>hs i (List.mem_cons_of_mem _ hi)) z
 | [],_::_,_,_,hl,_,_,_=>by simp at hl
 | _::_,[],_,_,hl,_,_,_=>by simp at hl
end
def clOf (cells:List (Str×Addr)):List (Str×NameKind)→List (Str×Addr)→List (Str×Addr)
 | [],acc=>acc
 | (n,k)::r,acc=>clOf cells r (if k == .free then (match cells.lookup n with | some c=>(n,c)::acc | none=>acc) else acc)
theorem closure_eq {env:Env}:∀ (names:List (Str×NameKind)) (acc:List (Str×Addr)),(∀ x∈names,x.2=.free→∃ c,env.cells.lookup x.1=some c) →
  (forIn names acc fun (x:Str×NameKind) (cs:List (Str×Addr))=>(if x.2 == .free then do let c ← cellOf env x.1; pure (ForInStep.yield ((x.1,c)::cs)) else pure (ForInStep.yield cs):Sem (ForInStep (List (Str×Addr)))))=pure (clOf env.cells names acc)
 | [],acc,_=>rfl
 | (n,k)::r,acc,h=>by
  rw [List.forIn_cons]
  by_cases hk:(k == NameKind.free)=true
  ·
   obtain ⟨c,hc⟩:=h (n,k) List.mem_cons_self (by simpa using hk)
   have e:cellOf env n=pure c:=by unfold cellOf; rw [show env.cells.lookup n=some c from hc]
   simp only [hk,if_true,e,pure_bind,clOf,hc]
   exact closure_eq r _ fun x hx=>h x (List.mem_cons_of_mem _ hx)
  ·
   simp only [hk,clOf,if_false,pure_bind]
   exact closure_eq r _ fun x hx=>h x (List.mem_cons_of_mem _ hx)
theorem closureFor_cl {scope:Scope} {env:Env} (h:∀ x∈scope.names,x.2=.free→∃ c,env.cells.lookup x.1=some c):closureFor scope env=pure (clOf env.cells scope.names []):=by
 have:=closure_eq (env:=env) scope.names [] h
 unfold closureFor
 simp only [bind_pure_comp] at this ⊢
 rw [this]
 rfl
theorem clOf_sub {cells:List (Str×Addr)}:∀ (names:List (Str×NameKind)) (acc:List (Str×Addr)),(∀ x c,acc.lookup x=some c→cells.lookup x=some c)→∀ x c,(clOf cells names acc).lookup x=some c→cells.lookup x=some c
 | [],acc,h,x,c,e=>h x c e
 | (n,k)::r,acc,h,x,c,e=>by
  unfold clOf at e
  refine clOf_sub r _ (fun y d ey=>?_) x c e
  split at ey
  ·
   split at ey
   ·
    rename_i q
    rw [List.lookup_cons] at ey
    split at ey
    ·
     rename_i e2
     have:y=n:=by simpa using e2
     cases ey
     rw [this]; exact q
    ·
     exact h y d ey
   ·
    exact h y d ey
  ·
   exact h y d ey
theorem lookup_some_cons {n:Str} {c:Addr} {acc:List (Str×Addr)} {x:Str} (h:∃ d,acc.lookup x=some d):∃ d,((n,c)::acc).lookup x=some d:=by
 rw [List.lookup_cons]
 split
 ·
  exact ⟨_,rfl⟩
 ·
  exact h
theorem clOf_has {cells:List (Str×Addr)}:∀ (names:List (Str×NameKind)) (acc:List (Str×Addr)) (x:Str),((∃ d,acc.lookup x=some d)∨((x,NameKind.free)∈names∧∃ c,cells.lookup x=some c))→∃ d,(clOf cells names acc).lookup x=some d
 | [],acc,x,h=>by
  rcases h with h | ⟨h,_⟩
  ·
   exact h
  ·
   simp at h
 | (n,k)::r,acc,x,h=>by
  unfold clOf
  refine clOf_has r _ x ?_
  rcases h with h | ⟨hm,c,hc⟩
  ·
   left
   split
   ·
    split
    ·
     exact lookup_some_cons h
    ·
     exact h
   ·
    exact h
  ·
   rcases List.mem_cons.mp hm with e | hm
   ·
    cases e
    left
    simp only [hc,beq_self_eq_true,if_true]
    exact ⟨c,by simp [List.lookup_cons]⟩
   ·
    exact .inr ⟨hm,c,hc⟩
def cxComp (X:Cx) (scope:Scope) (cl:List (Str×Addr)) (Nb:List Str) (s₀:Shared) (H₀:Hp) (fp:List Addr):Cx :=
 { X with N:=Nb,s₀:=s₀,H₀:=H₀,env:=compEnvC scope cl s₀.heap.objs.size X.env,outer:=X.stack,stack:=X.stack,ex:=fp,fn:=fun _=>false,pn:=[],xe:=fun _ _=>False }
end L2
namespace L2
open PySem PySem.Spec PyProof.Rows
theorem paired_iff {α β:Type} {F:α→β→Prop}:∀ {a:List α} {b:List β},Paired F a b↔a.length=b.length∧∀ p∈a.zip b,F p.1 p.2
 | [],[]=>⟨fun _=>⟨rfl,fun _ h=>by simp at h⟩,fun _=>.nil⟩
 | [],_::_=>⟨(fun h=>nomatch h),fun h=>by simp at h⟩
 | _::_,[]=>⟨(fun h=>nomatch h),fun h=>by simp at h⟩
 | x::a,y::b=>by
  constructor
  ·
   intro h
   cases h with
   | cons r t =>
    obtain ⟨h1,h2⟩:=paired_iff.mp t
    exact ⟨by simp [h1],fun p hp=>by
     rw [List.zip_cons_cons] at hp
     rcases List.mem_cons.mp hp with rfl | hp
     ·
      exact r
     ·
      exact h2 p hp⟩
  ·
   rintro ⟨hl,h⟩
   exact .cons (h (x,y) (by simp)) (paired_iff.mpr ⟨by simpa using hl,fun p hp=>h p (by rw [List.zip_cons_cons]; exact List.mem_cons_of_mem _ hp)⟩)
theorem owns_zip:∀ {σ:St} {ρ:Ev},σ.length=ρ.length→(σ.zip ρ).map (·.2)=ρ
 | [],[],_=>rfl
 | _::σ,l::ρ,h=>by
  have ih:=owns_zip (σ:=σ) (ρ:=ρ) (by simpa using h)
  rw [List.zip_cons_cons,List.map_cons,ih]
 | [],_::_,h=>by simp at h
 | _::_,[],h=>by simp at h
theorem REnv.rearr {K:PySem.W.Frag} {Pr H:Hp} {σ σ2:St} {ρ ρ2:Ev} (E:REnv K Pr H σ ρ) (hl:σ2.length=ρ2.length) (extra:List (Option V×L)) (h:(σ.zip ρ).Perm (σ2.zip ρ2++extra)):REnv K Pr H σ2 ρ2:=by
 have pm:(owns ρ).Perm (owns ρ2++owns (extra.map (·.2))):=by
  have q:=owns_perm (h.map (·.2))
  rw [List.map_append,owns_zip E.len,owns_zip hl,owns_append] at q
  exact q
 refine ⟨E.sub,(List.nodup_append.mp (pm.nodup_iff.mp E.nd)).1,fun a ha=>E.off a (pm.mem_iff.mpr (List.mem_append_left _ ha)),paired_iff.mpr ⟨hl,fun p hp=>?_⟩⟩
 exact (paired_iff.mp E.sl).2 p (h.mem_iff.mpr (List.mem_append_left _ hp))
theorem capSt_app {fi:List Nat} {σ τ:St} (h:∀ j∈fi,j < σ.length):capSt fi (σ++τ)=capSt fi σ:=by
 unfold capSt
 refine List.map_congr_left fun j hj=>?_
 rw [List.getElem?_append_left (h j hj)]
theorem capsOf_app {fi:List Nat} {σ τ:Ev} (h:∀ j∈fi,j < σ.length):capsOf fi (σ++τ)=capsOf fi σ:=by
 unfold capsOf
 refine List.map_congr_left fun j hj=>?_
 rw [List.getElem?_append_left (h j hj)]
theorem unsAt_app {τ:Ev}:∀ {fi:List Nat} {ρ:Ev},(∀ j∈fi,j < ρ.length)→unsAt fi (ρ++τ)=unsAt fi ρ++τ
 | [],_,_=>rfl
 | j::r,ρ,h=>by
  unfold unsAt
  rw [unsAt_app fun i hi=>h i (List.mem_cons_of_mem _ hi),List.set_append_left _ _ (by rw [unsAt_len]; exact h j List.mem_cons_self)]
theorem putAll_app {τ:Ev}:∀ {fi:List Nat} {cs ρ:Ev},(∀ j∈fi,j < ρ.length)→putAll fi cs (ρ++τ)=putAll fi cs ρ++τ
 | [],[],_,_=>rfl
 | [],_::_,_,_=>rfl
 | _::_,[],_,_=>rfl
 | j::r,c::cs,ρ,h=>by
  unfold putAll
  rw [List.set_append_left _ _ (h j List.mem_cons_self)]
  exact putAll_app fun i hi=>by rw [List.length_set]; exact h i (List.mem_cons_of_mem _ hi)
theorem lookup_relabel_free {env:Env}:∀ {names:List (Str×NameKind)} {x:Str},names.lookup x=some .free →
  (names.map fun (n,k)=>if (k == NameKind.free && env.scope.kind == .function && env.kindOf n == some .cell) then (n,NameKind.cell) else (n,k)).lookup x=some .cell ∨
  (names.map fun (n,k)=>if (k == NameKind.free && env.scope.kind == .function && env.kindOf n == some .cell) then (n,NameKind.cell) else (n,k)).lookup x=some .free
 | [],_,h=>by simp at h
 | (n,k)::r,x,h=>by
  have ih:=@lookup_relabel_free env r x
  rw [List.map_cons]
  cases hx:x == n with
  | true =>
   simp only [List.lookup_cons,hx] at h
   cases h
   dsimp only
   by_cases hc:(NameKind.free == NameKind.free && env.scope.kind == .function && env.kindOf n == some .cell)=true
   ·
    left; rw [if_pos hc]; simp [List.lookup_cons,hx]
   ·
    right; rw [if_neg hc]; simp [List.lookup_cons,hx]
  | false =>
   simp only [List.lookup_cons,hx] at h
   dsimp only
   by_cases hc:(k == NameKind.free && env.scope.kind == .function && env.kindOf n == some .cell)=true
   ·
    rw [if_pos hc]; simp only [List.lookup_cons,hx]; exact ih h
   ·
    rw [if_neg hc]; simp only [List.lookup_cons,hx]; exact ih h
theorem relabel_mem {env:Env}:∀ {names:List (Str×NameKind)} {x:Str} {k:NameKind},(∀ y∈names,y.2≠.cell)→(k=.cell∨k=.free) →
  (names.map fun (n,k)=>if (k == NameKind.free && env.scope.kind == .function && env.kindOf n == some .cell) then (n,NameKind.cell) else (n,k)).lookup x=some k→(x,NameKind.free)∈names
 | [],_,_,_,_,h=>by simp at h
 | (n,k0)::r,x,k,hc,hk,h=>by
  rw [List.map_cons] at h
  dsimp only at h
  by_cases q:(k0 == NameKind.free && env.scope.kind == .function && env.kindOf n == some .cell)=true
  ·
   rw [if_pos q,List.lookup_cons] at h
   have e0:k0=.free:=by
    have:=(Bool.and_eq_true_iff.mp (Bool.and_eq_true_iff.mp q).1).1
    simpa using this
   split at h
   ·
    rename_i e
    have:x=n:=by simpa using e
    subst this e0
    exact List.mem_cons_self
   ·
    exact List.mem_cons_of_mem _ (relabel_mem (fun y hy=>hc y (List.mem_cons_of_mem _ hy)) hk h)
  ·
   rw [if_neg q,List.lookup_cons] at h
   split at h
   ·
    rename_i e
    have:x=n:=by simpa using e
    subst this
    have e1:k0=k:=by simpa using h
    subst e1
    rcases hk with z | z
    ·
     exact absurd z (hc (x,k0) List.mem_cons_self)
    ·
     subst z; exact List.mem_cons_self
   ·
    exact List.mem_cons_of_mem _ (relabel_mem (fun y hy=>hc y (List.mem_cons_of_mem _ hy)) hk h)
end L2
namespace L2
open PySem PySem.Spec PyProof.Rows
section
variable {prog:Program} {w:World} {A:Around} {R:Result→Shared→Prop}
theorem comp_loop {elt target iter:Expr} {ifs:List Expr} {scope:Scope} {pos:Pos} {it acc:Value} {env:Env} (I:Nat→Shared→Prop)
  (turn:∀ n s,I n s→wpAny (model prog w) A (pyNext it) (fun r s₁=>match r with
   | none=>R (.ok .next) s₁
   | some v=>wpAny (model prog w) A (letOwnedTupleGo target it v) (fun _ s₀=>wpAny (model prog w) A (assign target env v) (fun _ s₂ =>
     wpAny (model prog w) A (forIn ifs true fun c r=>if r=true then do let ok ← isTrue c env (eval c env); pure (ForInStep.yield ok) else pure (ForInStep.yield r)) (fun ok s₃ =>
      if ok=true then wpAny (model prog w) A (eval elt env) (fun x s₄ =>
       wpAny (model prog w) A (call (.builtin "list.append") [acc,x]) (fun _ s₅=>∃ m,m < n∧I m s₅) (fun _ _=>False) s₄) (fun _ _=>False) s₃
      else ∃ m,m < n∧I m s₃) (fun _ _=>False) s₂) (fun _ _=>False) s₀) (fun _ _=>False) s₁) (fun _ _=>False) s)
  (n:Nat) {s:Shared} (h:I n s) :
  codeAny (model prog w) A (.compLoop (.ListComp elt [⟨target,iter,ifs,0⟩] scope pos) 0 it acc env) R s:=by
 refine codeAny_loop rfl I (fun n s hI=>?_) n h
 show wpAny _ A ((compTurn (.ListComp elt [⟨target,iter,ifs,0⟩] scope pos) 0 it acc env).onRaise (fun x=>do noteFrame x env; theTreesLotGoes x)) _ _ s
 refine wpAny_noted ?_
 rw [compTurn_list]
 have fe:∀ {α:Type} {t:Sem α} {Q:α→Shared→Prop} {E:Value→Shared→Prop} {s:Shared},wpAny (model prog w) A t Q (fun _ _=>False) s→wpAny (model prog w) A t Q E s:=fun h=>wpAny_mono h (fun _ _ q=>q) fun _ _ z=>z.elim
 refine wpAny_bind (wpAny_standAt (wpAny_bind (wpAny_mono (turn n s hI) (fun r s₁ h₁=>?_) fun _ _ h'=>h'.elim)))
 cases r with
 | none=>exact wpAny_pure h₁
 | some v =>
  refine wpAny_bind (wpAny_mono h₁ (fun _ s₀ h₀=>?_) fun _ _ z=>z.elim)
  refine wpAny_bind (wpAny_mono h₀ (fun _ s₂ h₂=>wpAny_bind (wpAny_mono h₂ (fun ok s₃ h₃=>?_) fun _ _ h'=>h'.elim)) fun _ _ h'=>h'.elim)
  cases ok with
  | false=>exact wpAny_pure ⟨rfl,h₃⟩
  | true =>
   exact wpAny_bind (wpAny_bind (wpAny_mono h₃ (fun x s₄ h₄=>wpAny_bind (wpAny_mono h₄ (fun _ s₅ h₅=>wpAny_pure (wpAny_pure ⟨rfl,h₅⟩)) fun _ _ h'=>h'.elim)) fun _ _ h'=>h'.elim))
end
def PTc (X:Cx) (tg:Expr) (n:Nat) (g:Tg):Prop:=∃ gg:TG,PG X tg gg∧∀ v σ H Pr ρ x k,σ.length=X.N.length→REnv X.K Pr H σ ρ→Rep X.K H v x→g x ρ k→gg v σ H fun σ' H'=>H'=H∧σ'.drop n=σ.drop n∧∃ ρ',REnv X.K Pr H σ' ρ'∧k ρ'
theorem tc_name {X:Cx} {i n:Nat} {x:Str} {pos:Pos} (hn:i < n) (hN:X.N.Nodup) (hi:X.N[i]?=some x) (hx:Loc X.env.scope x) (hf:X.fn x=true∨X.env.scope.names.lookup x=some .local:=by first | exact .inl rfl | exact .inr rfl | assumption):PTc X (.Name x pos) n (tgName i) :=
 ⟨_,pg_name hN hi hx hf,fun v σ H Pr ρ x k hl E r h=>⟨rfl,by rw [List.drop_set_of_lt hn],_,(E.cons_d r).store (by rw [hl]; exact (List.getElem?_eq_some_iff.mp hi).1),h⟩⟩
def PIf (X:Cx) (ifs:List Expr) (t:W Bool):Prop :=
 ∀ (pins:List (Addr×Obj)) (s:Shared) (σ:St) (H Pr:Hp) (ρ:Ev) (post:Bool→Ev→Prop),Inv X pins σ H s→REnv X.K Pr H σ ρ→t ρ post →
  wpAny (model X.prog X.w) X.A (forIn ifs true fun c r=>if r=true then do let ok ← isTrue c X.env (eval c X.env); pure (ForInStep.yield ok) else pure (ForInStep.yield r)) (EB X pins σ Pr post) X.xe s
def wTrue:W Bool:=fun ρ post=>post true ρ
theorem pif_nil {X:Cx}:PIf X [] wTrue:=fun pins s σ H Pr ρ post I E h=>wpAny_tests_nil ⟨H,ρ,I,E,h⟩
theorem pif_one {X:Cx} {c:Expr} {t:W Bool} (h:PB X c t):PIf X [c] t:=fun pins s σ H Pr ρ post I E ht=>wpAny_tests_one (h pins s σ H Pr ρ post I E ht)
def compL (g:Tg) (ti:W Bool) (te:W L):List D→Ev→List D→(List D→Ev→Prop)→Prop
 | [],ρ,acc,k=>k acc ρ
 | x::xs,ρ,acc,k=>g x ρ fun ρ1=>ti ρ1 fun b ρ2=>if b=true then te ρ2 fun r ρ3=>toD r fun y=>compL g ti te xs ρ3 (acc++[y]) k else compL g ti te xs ρ2 acc k
def wComp (n:Nat) (fi:List Nat) (src:W (List D)) (g:Tg) (ti:W Bool) (te:W L):W L:=fun ρ post=>src ρ fun xs ρ1=>xs.length≤sizeLine ∧
 compL g ti te xs (List.replicate n .un++capsOf fi ρ1) [] fun ys ρb=>∀ a,post (.own a ys) (putAll fi (ρb.drop n) (unsAt fi ρ1))
section
variable {X:Cx}
theorem comp_core {elt tg iter:Expr} {ifs:List Expr} {scope sc:Scope} {pos:Pos} {N Nt Nf:List Str} {fi:List Nat} {src:W (List D)} {g:Tg} {ti:W Bool} {te:W L}
  (hsc:X.env.scope=sc) (hXN:X.N=N) (hc:X.calm=true) (hi:PIL X tg iter src)
  (hkind:scope.kind=.function) (hnames:∀ x∈scope.names,x.2=.local→scope.names.lookup x.1=some .local) (hcell:∀ y∈scope.names,y.2≠.cell)
  (hfr:∀ x∈scope.names,x.2=.free→sc.names.lookup x.1=some .cell∨sc.names.lookup x.1=some .free)
  (hnd:fi.Nodup) (hNf:Nf.map some=fi.map (fun j=>N[j]?)) (hNk:∀ x∈Nf,scope.names.lookup x=some .free) (hfl:∀ j∈fi,j < N.length)
  (hg:∀ cl s₀ H₀ fp,PTc (cxComp X scope cl (Nt++Nf) s₀ H₀ fp) tg Nt.length g) (hti:∀ cl s₀ H₀ fp,PIf (cxComp X scope cl (Nt++Nf) s₀ H₀ fp) ifs ti) (hte:∀ cl s₀ H₀ fp,PL (cxComp X scope cl (Nt++Nf) s₀ H₀ fp) elt te)
  {pins:List (Addr×Obj)} {s:Shared} {σ:St} {H Pr:Hp} {ρ:Ev} {post:L→Ev→Prop} {use:Option (Value→Sem Unit)} {Q:Value→Shared→Prop} (I:Inv X pins σ H s) (E:REnv X.K Pr H σ ρ) (h:wComp Nt.length fi src g ti te ρ post)
  (hRR:∀ D C s7 H6 acc ρ'' m,Inv X pins σ H6 s7→s7.heap.Ns C m→H6 C=none→C≠X.env.locals→X.s₀.heap.objs.size≤C→(∀ x c,X.env.cells.lookup x=some c→c≠C)→(∀ p∈X.pn++pins,p.1≠C)→REnv X.K Pr H6 (some (.ref D)::σ) (.own D acc::ρ'')→post (.own D acc) ρ'' →
   compPost (model X.prog X.w) X.A X.xe use Q (.ref D) C (.ok .next) s7)
  (hs:∀ x,foldedSetIterable iter X.env x=pure x):wpAny (model X.prog X.w) X.A (comprehension (.ListComp elt [⟨tg,iter,ifs,0⟩] scope pos) scope X.env (firstIterPos [⟨tg,iter,ifs,0⟩] pos) (newList []) false (eval iter X.env) use) Q X.xe s:=by
 have hcells:∀ x∈scope.names,x.2=.free→∃ c,X.env.cells.lookup x.1=some c:=fun x hx hk=>I.ok.has x.1 (by
  show X.env.scope.names.lookup x.1=_∨X.env.scope.names.lookup x.1=_
  rw [hsc]; exact hfr x hx hk)
 have hsub:=clOf_sub (cells:=X.env.cells) scope.names [] (fun x c e=>by simp at e)
 refine wpAny_comprehension_free (use:=use) rfl hs (closureFor_cl hcells) hkind hnames (thn (hi pins s σ H Pr ρ _ I E h) fun v s1 h1=>thn h1 fun itv s2 h2=>?_)
 obtain ⟨it,fp,tn,J,H2,xs,ρ2,e,I2,T,st2,f2,E2,G,hlen,w0⟩:=h2
 subst e
 refine wpAny_newObj_type (T:="list") ?_
 generalize hD:s2.heap.objs.size=D
 have fD:H2 D=none:=by rw [← hD]; exact I2.fresh
 have I3:Inv X pins σ (upd H2 D (.lst [])) { s2 with heap:=s2.heap.push { cls:=.type "list",dict:=none,data:=.seq ([]:List Value).toArray } }:=by
  have:=Inv.lnew (ys:=[]) (its:=[]) (t':=s2.toks) I2 .nil (Nat.zero_le _)
  rw [hD] at this
  exact this
 have E3:=E2.cons_own (p:=D) (vs:=[]) (xs:=[]) fD .nil
 have sz3:(s2.heap.push { cls:=.type "list",dict:=none,data:=.seq ([]:List Value).toArray }).objs.size=D+1:=by rw [Heap.size_push,hD]
 generalize hs3:({ s2 with heap:=s2.heap.push { cls:=.type "list",dict:=none,data:=.seq ([]:List Value).toArray } }:Shared)=s3 at I3
 have hs3h:s3.heap=s2.heap.push { cls:=.type "list",dict:=none,data:=.seq ([]:List Value).toArray }:=by rw [← hs3]
 have fpD:∀ b∈fp,b≠D:=fun b hb=>by
  obtain ⟨o,e,_⟩:=T.obj 0 _ st2 b hb
  rw [← hD]; exact Nat.ne_of_lt (Heap.lt_size e)
 have old3:∀ b o,s2.heap.get? b=some o→s3.heap.get? b=some o:=fun b o e=>by rw [hs3h]; exact Heap.get?_push_of_some _ e
 refine wpAny_newFunctionEnv (around:=some X.env) hcell (by intro y hy; simp at hy) (fun h4 hns4 hsb4=>?_) hkind
 have hns4':h4.Ns s3.heap.objs.size (fun _=>none):=by
  have:(fun x=>(([]:List (Str×Value)).reverse.lookup x))=fun _=>(none:Option Value):=by funext x; rfl
  rw [this] at hns4
  exact hns4
 have old4:∀ b o,s3.heap.get? b=some o→h4.get? b=some o:=fun b o e=>by
  rw [hsb4.2 b (Nat.ne_of_lt (Heap.lt_size e))]; exact Heap.get?_push_of_some _ e
 have hσl:σ.length=N.length:=by rw [← hXN]; exact I.len
 have hρ2:σ.length=ρ2.length:=E2.len
 have hjσ:∀ j∈fi,j < σ.length:=fun j hj=>by rw [hσl]; exact hfl j hj
 have hjρ:∀ j∈fi,j < ρ2.length:=fun j hj=>by rw [← hρ2]; exact hjσ j hj
 have hfpl:∀ b∈fp,b < s3.heap.objs.size:=fun b hb=>by
  obtain ⟨o,e,_⟩:=T.obj 0 _ st2 b hb
  exact Heap.lt_size (old3 b o e)
 have hlNf:Nf.length=fi.length:=by have:=congrArg List.length hNf; simpa using this
 have Bok:(cxComp X scope (clOf X.env.cells scope.names []) (Nt++Nf) s3 (upd H2 D (.lst [])) fp).Ok:=by
  refine ⟨I3.ok.mod,hkind,I.ok.glob,I.ok.blt,Nat.le_refl _,fun x y c e1 e2=>I.ok.inj x y c (hsub x c e1) (hsub y c e2),fun x hx=>?_,fun x c hf _=>(Bool.false_ne_true hf).elim,I.ok.hd,I.ok.frames,.inl rfl,fun b hb=>⟨Nat.ne_of_lt (hfpl b hb),fun x c e=>(f2 b hb).2.2.2.2.1 x c (hsub x c e)⟩,I3.bs,Nat.le_trans I.ok.bsz I3.sz,fun b o e hb=>?_,fun b hb hm=>?_,I3.stack,I3.stkFree⟩
  ·
   have hm:(x,NameKind.free)∈scope.names:=by
    rcases hx with hx | hx
    ·
     exact relabel_mem (env:=X.env) hcell (.inl rfl) hx
    ·
     exact relabel_mem (env:=X.env) hcell (.inr rfl) hx
   exact clOf_has scope.names [] x (.inr ⟨hm,hcells _ hm rfl⟩)
  ·
   rcases (f2 b hb).2.2.2.1 with z | z
   ·
    exact I.ok.noex b o e z
   ·
    exact absurd (Nat.lt_of_lt_of_le (Heap.lt_size (I.ok.bs b o e).1) z) (Nat.lt_irrefl _)
  ·
   rcases List.mem_cons.mp (I3.stkSub b hm) with z | z
   ·
    exact (f2 b hb).2.1 z
   ·
    exact (f2 b hb).2.2.1 z
 have I4:Inv (cxComp X scope (clOf X.env.cells scope.names []) (Nt++Nf) s3 (upd H2 D (.lst [])) fp) [] (List.replicate Nt.length none++capSt fi σ) (upd H2 D (.lst [])) { s3 with heap:=h4,toks:=s3.toks+([]:List (Str×Value)).length }:=by
  refine ⟨Bok,rfl,I3.bare,Un.kept old4,⟨_,hns4',fun i x v e1 e2 e3=>?_⟩,fun x c e=>?_,I3.fresh,fun x c e=>I3.freeC x c (hsub x c e),fun p hp=>absurd (show p∈([]:List (Addr×Obj)) from hp) (by simp),I3.hok.kept old4,?_⟩
  ·
   have e1:(Nt++Nf)[i]?=some x:=e1
   have hi':Nt.length≤i:=by
    by_cases q:i < Nt.length
    ·
     rw [List.getElem?_append_left (by simpa using q),List.getElem?_replicate] at e2
     split at e2 <;> cases e2
    ·
     omega
   rw [List.getElem?_append_right hi'] at e1
   rw [List.getElem?_append_right (by simpa using hi')] at e2
   simp only [List.length_replicate] at e2
   generalize i - Nt.length=k at e1 e2
   have hk:k < fi.length:=by
    have:=(List.getElem?_eq_some_iff.mp e1).1
    omega
   have e4:(Nf.map some)[k]?=(fi.map fun j=>N[j]?)[k]?:=by rw [hNf]
   rw [List.getElem?_map,List.getElem?_map,e1,List.getElem?_eq_getElem hk] at e4
   have e5:N[fi[k]]?=some x:=by simpa using e4.symm
   have e6:σ[fi[k]]?=some (some v):=by
    unfold capSt at e2
    rw [List.getElem?_map,List.getElem?_eq_getElem hk] at e2
    have hjl:=hjσ fi[k] (List.getElem_mem hk)
    rw [List.getElem?_eq_getElem hjl]
    simpa [List.getElem?_eq_getElem hjl] using e2
   have hxm:x∈Nf:=List.mem_of_getElem? e1
   have hfree:=hNk x hxm
   have hmem:(x,NameKind.free)∈scope.names:=PySem.mem_of_lookup hfree
   have hkx:=hfr _ hmem rfl
   obtain ⟨m,_,hl⟩:=I3.loc
   obtain ⟨u,ru,lk⟩:=hl fi[k] x v (by rw [hXN]; exact e5) e6 (by rw [hsc]; exact .inr hkx)
   refine ⟨u,ru,.inr ⟨lookup_relabel_free (env:=X.env) hfree,?_⟩⟩
   rcases lk with ⟨z,_⟩ | ⟨_,c,hc1,hc2⟩
   ·
    have z:X.env.scope.names.lookup x=some .local:=z
    rw [hsc] at z
    rcases hkx with q | q
    ·
     rw [z] at q; cases q
    ·
     rw [z] at q; cases q
   ·
    obtain ⟨d,hd⟩:=clOf_has (cells:=X.env.cells) scope.names [] x (.inr ⟨hmem,c,hc1⟩)
    have:d=c:=by have:=hsub x d hd; rw [hc1] at this; exact (Option.some.inj this).symm
    subst this
    obtain ⟨o,ho,hdd⟩:=hc2
    exact ⟨d,hd,o,old4 _ o ho,hdd⟩
  ·
   obtain ⟨v,o,ho,hd⟩:=I3.cell x c (hsub x c e)
   exact ⟨v,o,old4 c o ho,hd⟩
  ·
   show (List.replicate Nt.length none++capSt fi σ).length=(Nt++Nf).length
   simp [capSt,hlNf]
 have E4:REnv X.K Pr (upd H2 D (.lst [])) (some (.ref D)::(σ++(List.replicate Nt.length none++capSt fi σ))) (.own D []::(unsAt fi ρ2++(List.replicate Nt.length .un++capsOf fi ρ2))):=by
  have a1:REnv X.K Pr (upd H2 D (.lst [])) (σ++[some (.ref D)]) (ρ2++[.own D []]):=E3.rearr (by simp [hρ2]) [] (by
   rw [List.append_nil,List.zip_append hρ2]
   exact (List.perm_append_comm (l₁:=[(some (V.ref D),L.own D [])]) (l₂:=σ.zip ρ2)))
  have a2:=a1.takes fi hnd fun j hj=>by have:=hjρ j hj; simp; omega
  rw [capSt_app hjσ,capsOf_app hjρ,unsAt_app hjρ] at a2
  have a3:=a2.uns Nt.length
  have hcl:(capSt fi σ).length=(capsOf fi ρ2).length:=by simp [capSt,capsOf]
  have hul:σ.length=(unsAt fi ρ2).length:=by rw [unsAt_len]; exact hρ2
  refine a3.rearr (by simp [hul,hcl]) [] ?_
  have l1:(capSt fi σ++(σ++[some (V.ref D)])++List.replicate Nt.length none).zip (capsOf fi ρ2++(unsAt fi ρ2++[L.own D []])++List.replicate Nt.length L.un)=((capSt fi σ).zip (capsOf fi ρ2)++(σ.zip (unsAt fi ρ2)++[(some (V.ref D),L.own D [])]))++(List.replicate Nt.length none).zip (List.replicate Nt.length L.un):=by
   rw [List.zip_append (by simp only [List.length_append,hcl,hul]; rfl),List.zip_append hcl,List.zip_append hul]
   rfl
  have l2:(some (V.ref D)::(σ++(List.replicate Nt.length none++capSt fi σ))).zip (L.own D []::(unsAt fi ρ2++(List.replicate Nt.length L.un++capsOf fi ρ2)))=(some (V.ref D),L.own D [])::(σ.zip (unsAt fi ρ2)++((List.replicate Nt.length none).zip (List.replicate Nt.length L.un)++(capSt fi σ).zip (capsOf fi ρ2))):=by
   rw [List.zip_cons_cons,List.zip_append hul,List.zip_append (by simp)]
  rw [List.append_nil,l1,l2]
  generalize (capSt fi σ).zip (capsOf fi ρ2)=z1
  generalize σ.zip (unsAt fi ρ2)=z2
  generalize (List.replicate Nt.length none).zip (List.replicate Nt.length L.un)=z3
  show (z1++(z2++[(some (V.ref D),L.own D [])])++z3).Perm ((some (V.ref D),L.own D [])::(z2++(z3++z1)))
  have p1:(z1++(z2++[(some (V.ref D),L.own D [])])++z3).Perm ((z2++[(some (V.ref D),L.own D [])])++z3++z1):=by
   rw [List.append_assoc]
   exact List.perm_append_comm
  refine p1.trans ?_
  rw [List.append_assoc,List.append_assoc]
  exact List.perm_middle
 clear E3
 let B:Cx:=cxComp X scope (clOf X.env.cells scope.names []) (Nt++Nf) s3 (upd H2 D (.lst [])) fp
 have hul:σ.length=(unsAt fi ρ2).length:=by rw [unsAt_len]; exact hρ2
 have stat:∀ {H':Hp},(∀ b∈fp,H' b=none)→∀ b∈fp,FpOk B [] H' b:=fun hn b hb=>by
  refine ⟨hn b hb,Nat.ne_of_lt (hfpl b hb),fun hm=>?_,.inl hb,fun x c e=>(f2 b hb).2.2.2.2.1 x c (hsub x c e),fun p hp=>absurd (show p∈([]:List (Addr×Obj)) from hp) (by simp)⟩
  rcases List.mem_cons.mp (I3.stkSub b hm) with z | z
  ·
   exact (f2 b hb).2.1 z
  ·
   exact (f2 b hb).2.2.1 z
 have loop:∀ s5:Shared,s5={ s3 with heap:=h4,toks:=s3.toks+([]:List (Str×Value)).length }→codeAny (model X.prog X.w) X.A (.compLoop (.ListComp elt [⟨tg,iter,ifs,0⟩] scope pos) 0 (.ref it) (.ref D) B.env)
   (compPost (model X.prog X.w) X.A X.xe use Q (.ref D) s3.heap.objs.size) s5:=by
  rintro s5 rfl
  refine comp_loop (fun n s'=>∃ i σ' H' ρ' acc,n+i=xs.length∧Inv B [] σ' H' s'∧tn i s'.heap∧(∀ b∈fp,H' b=none)∧σ'.drop Nt.length=capSt fi σ∧REnv X.K Pr H' (some (.ref D)::(σ++σ')) (.own D acc::(unsAt fi ρ2++ρ'))∧acc.length≤i ∧
   compL g ti te (xs.drop i) ρ' acc fun ys ρb=>∀ a,post (.own a ys) (putAll fi (ρb.drop Nt.length) (unsAt fi ρ2))) ?_ xs.length
   ⟨0,_,_,_,[],by omega,I4,T.keep 0 _ _ st2 fun b hb o e=>old4 b o (old3 b o e),fun b hb=>by rw [upd_ne (fpD b hb)]; exact (f2 b hb).1,by simp,E4,Nat.le_refl _,by simpa using w0⟩
  rintro n s6 ⟨i,σ6,H6,ρ6,acc,hn,I6,st6,fr6,dr6,E6,hal,w6⟩
  have pr:Pres H2 H6:=fun b o p e=>by
   have ne:b≠D:=fun z=>by rw [z,fD] at e; cases e
   have e':B.H₀ b=some o:=by show upd H2 D (.lst []) b=some o; rw [upd_ne ne]; exact e
   cases o with
   | tup ys=>exact I6.base.tups b ys e'
   | frz ob u=>exact I6.base.frzs b ob u e'
   | _=>exact p.elim
  obtain ⟨go,stop⟩:=G H6 pr
  have hτ:(some (V.ref D)::σ).length=(L.own D acc::unsAt fi ρ2).length:=by simp [hul]
  by_cases hlt:i < xs.length
  ·
   obtain ⟨hgo,hy⟩:=go i xs[i] (List.getElem?_eq_getElem hlt)
   rw [List.drop_eq_getElem_cons hlt] at w6
   refine thn (T.item B rfl rfl rfl hc i [] s6 σ6 H6 (fun _ _=>False) I6 (stat fr6) st6 hgo) fun r s7 ⟨u,hr,h7⟩=>?_
   subst hr
   refine thn h7 fun _ s8 ⟨x,H8,I8,r8,y8,st8,fr8⟩=>?_
   obtain ⟨gr,rx⟩:=hy x H8 y8
   have I8':=I8.pinned (stat fr8) (T.obj _ _ st8)
   have E8:=E6.grown gr
   have E8a:REnv X.K (butOwn H8 ρ6) H8 σ6 ρ6:=(REnv.drop (τ:=some (V.ref D)::σ) (lam:=L.own D acc::unsAt fi ρ2) E8 hτ).wide
   obtain ⟨gg,hgg,hgs⟩:=hg (clOf X.env.cells scope.names []) s3 (upd H2 D (.lst [])) fp
   refine thn (hgg _ s8 σ6 H8 x u _ I8' r8 (hgs x σ6 H8 _ ρ6 xs[i] _ I8.len E8a rx w6)) fun _ s9 ⟨σ9,H9,I9,e9,dr9,ρ9,E9,q9⟩=>?_
   subst e9
   have F9:REnv X.K Pr H9 (some (V.ref D)::(σ++σ9)) (L.own D acc::(unsAt fi ρ2++ρ9)):=REnv.step (τ:=some (V.ref D)::σ) (lam:=L.own D acc::unsAt fi ρ2) (w:=[]) (μ:=[]) E8 hτ E9 rfl
   have F9a:REnv X.K (butOwn H9 ρ9) H9 σ9 ρ9:=(REnv.drop (τ:=some (V.ref D)::σ) (lam:=L.own D acc::unsAt fi ρ2) F9 hτ).wide
   refine thn (hti _ _ _ _ _ s9 σ9 H9 _ ρ9 _ I9 F9a q9) fun ok sA ⟨HA,ρA,IA,EA,qA⟩=>?_
   have FA:REnv X.K Pr HA (some (V.ref D)::(σ++σ9)) (L.own D acc::(unsAt fi ρ2++ρA)):=REnv.step (τ:=some (V.ref D)::σ) (lam:=L.own D acc::unsAt fi ρ2) (w:=[]) (μ:=[]) F9 hτ EA rfl
   have again:∀ {sZ:Shared} {HZ:Hp} {ρZ:Ev} {acc':List L2.D},Inv B ([]++pinsAt fp s8.heap) σ9 HZ sZ→REnv X.K Pr HZ (some (.ref D)::(σ++σ9)) (.own D acc'::(unsAt fi ρ2++ρZ))→acc'.length≤i+1 →
     (compL g ti te (xs.drop (i+1)) ρZ acc' fun ys ρb=>∀ a,post (.own a ys) (putAll fi (ρb.drop Nt.length) (unsAt fi ρ2)))→∃ m,m < n∧∃ i σ' H' ρ' acc,m+i=xs.length∧Inv B [] σ' H' sZ∧tn i sZ.heap∧(∀ b∈fp,H' b=none)∧σ'.drop Nt.length=capSt fi σ ∧
     REnv X.K Pr H' (some (.ref D)::(σ++σ')) (.own D acc::(unsAt fi ρ2++ρ'))∧acc.length≤i∧compL g ti te (xs.drop i) ρ' acc fun ys ρb=>∀ a,post (.own a ys) (putAll fi (ρb.drop Nt.length) (unsAt fi ρ2)):=fun {sZ HZ ρZ acc'} IZ EZ hz qZ=>by
    refine ⟨n - 1,by omega,i+1,σ9,HZ,ρZ,acc',by omega,IZ.unpinned,T.keep _ _ _ st8 fun b hb o e=>(IZ.pin (b,o) (List.mem_append_right _ (List.mem_append_right _ (mem_pinsAt hb e)))).1,fun b hb=>?_,dr9.trans dr6,EZ,hz,qZ⟩
    obtain ⟨o,e,d⟩:=T.obj _ _ st8 b hb
    exact (IZ.pin (b,o) (List.mem_append_right _ (List.mem_append_right _ (mem_pinsAt hb e)))).2.1
   cases ok with
   | false =>
    rw [if_neg Bool.false_ne_true] at qA ⊢
    exact again IA FA (by omega) qA
   | true =>
    rw [if_pos rfl] at qA ⊢
    have FAa:REnv X.K (butOwn HA ρA) HA σ9 ρA:=(REnv.drop (τ:=some (V.ref D)::σ) (lam:=L.own D acc::unsAt fi ρ2) FA hτ).wide
    refine thn (hte _ _ _ _ _ sA σ9 HA _ ρA _ IA FAa qA) fun ux sB qB=>?_
    obtain ⟨vy,HB,y,ρB,IB,rB,EB,qB⟩:=EL.frz (X:=B) (post:=fun y ρ3=>compL g ti te (xs.drop (i+1)) ρ3 (acc++[y]) fun ys ρb=>∀ a,post (.own a ys) (putAll fi (ρb.drop Nt.length) (unsAt fi ρ2))) qB
    have FB:REnv X.K Pr HB (some vy::(some (V.ref D)::(σ++σ9))) (.d y::(L.own D acc::(unsAt fi ρ2++ρB))):=REnv.step (τ:=some (V.ref D)::σ) (lam:=L.own D acc::unsAt fi ρ2) (w:=[some vy]) (μ:=[.d y]) FA hτ EB rfl
    obtain ⟨_,e1,p1⟩:=FB.head_d
    cases e1
    have slB:=FB.tail.sl
    cases slB with
    | cons q0 _ =>
     obtain ⟨_,vs,hDB,rvs⟩:=q0
     refine thn (mt_append (X:=B) _ sB σ9 HB (.ref D) [vy] (.ref D) [ux] (fun z H'=>H'=upd HB D (.lst (vs++[vy]))) IB rfl (.cons rB .nil) ⟨D,vs,vy,rfl,rfl,hDB,by rw [rvs.length]; omega,rfl⟩) fun _ sC ⟨z,HC,IC,_,eC⟩=>?_
     subst eC
     exact again IC (FB.tail.write (rvs.append (.cons p1 .nil))) (by simp; omega) qB
  ·
   have e:i=xs.length:=by omega
   subst e
   refine thn (T.done B rfl rfl rfl hc xs.length [] s6 σ6 H6 (fun _ _=>False) I6 (stat fr6) st6 stop) fun r s7 ⟨hr,I7⟩=>?_
   subst hr
   rw [List.drop_length] at w6
   obtain ⟨m,hm,_⟩:=id I7.loc
   have I8:Inv X pins σ H6 s7:=I3.call' (ch:=fp) I7.os I7.base I7.hok I7.bare fun b hb=>⟨(f2 b hb).2.2.2.1,(f2 b hb).2.1,(f2 b hb).2.2.2.2.1,(f2 b hb).2.2.2.2.2⟩
   have f4:=I3.fpOk (H':=H6) (b:=s3.heap.objs.size) (Nat.le_refl _) I7.free
   ·
    have hlen6:σ6.length=ρ6.length:=(REnv.drop (τ:=some (V.ref D)::σ) (lam:=L.own D acc::unsAt fi ρ2) E6 hτ).len
    have a1:REnv X.K Pr H6 (capSt fi σ++(σ++[some (V.ref D)])) (ρ6.drop Nt.length++(unsAt fi ρ2++[L.own D acc])):=by
     have hcd:(capSt fi σ).length=(ρ6.drop Nt.length).length:=by rw [← dr6,List.length_drop,List.length_drop,hlen6]
     refine E6.rearr (by simp [hcd,hul,hlen6]) ((σ6.take Nt.length).zip (ρ6.take Nt.length)) ?_
     have l0:σ6.zip ρ6=(σ6.take Nt.length).zip (ρ6.take Nt.length)++(capSt fi σ).zip (ρ6.drop Nt.length):=by
      rw [← dr6,← List.zip_append (by simp [hlen6]),List.take_append_drop,List.take_append_drop]
     have l1:(some (V.ref D)::(σ++σ6)).zip (L.own D acc::(unsAt fi ρ2++ρ6))=(some (V.ref D),L.own D acc)::(σ.zip (unsAt fi ρ2)++σ6.zip ρ6):=by rw [List.zip_cons_cons,List.zip_append hul]
     have l2:(capSt fi σ++(σ++[some (V.ref D)])).zip (ρ6.drop Nt.length++(unsAt fi ρ2++[L.own D acc]))=(capSt fi σ).zip (ρ6.drop Nt.length)++(σ.zip (unsAt fi ρ2)++[(some (V.ref D),L.own D acc)]):=by
      rw [List.zip_append hcd,List.zip_append hul]; rfl
     rw [l1,l2,l0]
     generalize (capSt fi σ).zip (ρ6.drop Nt.length)=z1
     generalize σ.zip (unsAt fi ρ2)=z2
     generalize (σ6.take Nt.length).zip (ρ6.take Nt.length)=z3
     have p1:((some (V.ref D),L.own D acc)::(z2++(z3++z1))).Perm ((z2++[(some (V.ref D),L.own D acc)])++(z3++z1)):=by
      rw [List.append_assoc]
      exact List.perm_middle.symm
     refine p1.trans ?_
     have p2:((z2++[(some (V.ref D),L.own D acc)])++(z3++z1)).Perm ((z3++z1)++(z2++[(some (V.ref D),L.own D acc)])):=List.perm_append_comm
     refine p2.trans ?_
     rw [List.append_assoc]
     exact List.perm_append_comm
    have a2:=REnv.backs (σ:=σ++[some (V.ref D)]) (cs:=ρ6.drop Nt.length) (ρ:=unsAt fi ρ2++[L.own D acc]) fi hnd (by rw [List.length_drop,← hlen6,← List.length_drop,dr6]; simp [capSt]) (fun j hj=>by
     rw [List.getElem?_append_left (by rw [unsAt_len]; exact hjρ j hj)]; exact unsAt_un fi ρ2 j hj (hjρ j hj)) (fun j hj=>by have:=hjσ j hj; simp; omega) (by rw [capSt_app hjσ]; exact a1)
    rw [putAll_app fun j hj=>by rw [unsAt_len]; exact hjρ j hj] at a2
    have hpl:σ.length=(putAll fi (ρ6.drop Nt.length) (unsAt fi ρ2)).length:=by have:=a2.len; simpa using this
    refine hRR D s3.heap.objs.size s7 H6 acc (putAll fi (ρ6.drop Nt.length) (unsAt fi ρ2)) m I8 hm f4.1 f4.2.1 I3.sz f4.2.2.2.2.1 f4.2.2.2.2.2 (a2.rearr (by simp [hpl]) [] ?_) (w6 D)
    rw [List.append_nil,List.zip_append hpl,List.zip_cons_cons]
    exact List.perm_append_comm (l₂:=[(some (V.ref D),L.own D acc)])
 exact codeAny_compStart_list (loop _ rfl) (T.self _ 0 _ _ _ (T.keep 0 _ _ st2 fun b hb o e=>old4 b o (old3 b o e)) (loop _ rfl))
theorem pl_comp {elt tg iter:Expr} {ifs:List Expr} {scope sc:Scope} {pos:Pos} {N Nt Nf:List Str} {fi:List Nat} {src:W (List D)} {g:Tg} {ti:W Bool} {te:W L}
  (hsc:X.env.scope=sc) (hXN:X.N=N) (hc:X.calm=true) (hi:PIL X tg iter src)
  (hkind:scope.kind=.function) (hnames:∀ x∈scope.names,x.2=.local→scope.names.lookup x.1=some .local) (hcell:∀ y∈scope.names,y.2≠.cell)
  (hfr:∀ x∈scope.names,x.2=.free→sc.names.lookup x.1=some .cell∨sc.names.lookup x.1=some .free)
  (hnd:fi.Nodup) (hNf:Nf.map some=fi.map (fun j=>N[j]?)) (hNk:∀ x∈Nf,scope.names.lookup x=some .free) (hfl:∀ j∈fi,j < N.length)
  (hg:∀ cl s₀ H₀ fp,PTc (cxComp X scope cl (Nt++Nf) s₀ H₀ fp) tg Nt.length g) (hti:∀ cl s₀ H₀ fp,PIf (cxComp X scope cl (Nt++Nf) s₀ H₀ fp) ifs ti) (hte:∀ cl s₀ H₀ fp,PL (cxComp X scope cl (Nt++Nf) s₀ H₀ fp) elt te)
  (hs:∀ x,foldedSetIterable iter X.env x=pure x:=by intro _; rfl):PL X (.ListComp elt [⟨tg,iter,ifs,0⟩] scope pos) (wComp Nt.length fi src g ti te):=by
 intro pins s σ H Pr ρ post I E h
 rw [eval_ListComp]
 refine comp_core (use:=none) hsc hXN hc hi hkind hnames hcell hfr hnd hNf hNk hfl hg hti hte I E h (fun D C s7 H6 acc ρ'' m I7 hm h1 h2 h3 h4 h5 E7 p=>?_) hs
 exact ⟨m,hm,fun h' hsb=>⟨.ref D,H6,_,ρ'',I7.turned (t':=s7.toks) (fun b o hb e=>(hsb.2 b hb).trans e) h1 (Ne.symm (Ne.symm h2)) (.inr h3) h4 h5,rfl,E7,p⟩⟩
theorem pm_setC {elt tg iter:Expr} {ifs:List Expr} {scope sc:Scope} {pos spos py:Pos} {y:Str} {j:Nat} {N Nt Nf:List Str} {fi:List Nat} {src:W (List D)} {g:Tg} {ti:W Bool} {te:W L}
  (hN:X.N.Nodup) (hj:X.N[j]?=some y) (hy:Loc X.env.scope y)
  (hsc:X.env.scope=sc) (hXN:X.N=N) (hc:X.calm=true) (hi:PIL X tg iter src)
  (hkind:scope.kind=.function) (hnames:∀ x∈scope.names,x.2=.local→scope.names.lookup x.1=some .local) (hcell:∀ y∈scope.names,y.2≠.cell)
  (hfr:∀ x∈scope.names,x.2=.free→sc.names.lookup x.1=some .cell∨sc.names.lookup x.1=some .free)
  (hnd:fi.Nodup) (hNf:Nf.map some=fi.map (fun j=>N[j]?)) (hNk:∀ x∈Nf,scope.names.lookup x=some .free) (hfl:∀ j∈fi,j < N.length)
  (hg:∀ cl s₀ H₀ fp,PTc (cxComp X scope cl (Nt++Nf) s₀ H₀ fp) tg Nt.length g) (hti:∀ cl s₀ H₀ fp,PIf (cxComp X scope cl (Nt++Nf) s₀ H₀ fp) ifs ti) (hte:∀ cl s₀ H₀ fp,PL (cxComp X scope cl (Nt++Nf) s₀ H₀ fp) elt te)
  (hsw:swapsWith (.ListComp elt [⟨tg,iter,ifs,0⟩] scope pos) (some (.Name y py)) spos.line X.env=pure true:=by rfl) (hf:X.fn y=true∨X.env.scope.names.lookup y=some .local:=by first | exact .inl rfl | exact .inr rfl | assumption)
  (hs:∀ x,foldedSetIterable iter X.env x=pure x:=by intro _; rfl):PM X (.Assign [.Name y py] (.ListComp elt [⟨tg,iter,ifs,0⟩] scope pos) spos) (wSet j (wComp Nt.length fi src g ti te)):=by
 intro pins s σ H Pr ρ post I E h
 rw [exec_Assign_Name_used _ _ _ _ hsw]
 refine wpAny_bind (wpAny_standAt (wpAny_bind ?_))
 show wpAny _ X.A (do let _ ← comprehension (.ListComp elt [⟨tg,iter,ifs,0⟩] scope pos) scope X.env (firstIterPos [⟨tg,iter,ifs,0⟩] pos) (newList []) false (eval iter X.env) (some (assign (.Name y py) X.env))) _ _ s
 refine wpAny_bind (thn (comp_core (use:=some (assign (.Name y py) X.env)) (Q:=fun _ s'=>SM X pins Pr post .next s') (post:=fun r ρ1=>post .nx (ρ1.set j r)) hsc hXN hc hi hkind hnames hcell hfr hnd hNf hNk hfl hg hti hte I E h (fun D C s7 H6 acc ρ'' m I7 hm h1 h2 h3 h4 h5 E7 p=>?_) hs) fun _ s' hq=>wpAny_pure (wpAny_pure hq))
 show wpAny _ X.A (assign (.Name y py) X.env (.ref D)) _ _ _
 refine wpAny_assign_Name (store_ok2 (v:=.ref D) I7 hN hj hy rfl (fun s8 I8 ⟨a,sb,ha⟩=>?_) hf)
 have hCa:C≠a:=by
  rcases ha with z | z
  ·
   rw [z]; exact h2
  ·
   exact fun q=>h4 y a z q.symm
 refine ⟨m,hm.sameBut sb hCa,fun h' hsb=>⟨_,H6,_,I8.turned (t':=s8.toks) (fun b o hb e=>(hsb.2 b hb).trans e) h1 h2 (.inr h3) h4 h5,E7.store (by rw [I7.len]; exact (List.getElem?_eq_some_iff.mp hj).1),p⟩⟩
end
end L2
namespace L2
open PySem PySem.Spec PyProof.Rows
section
variable {X:Cx} {e a b c:Expr} {es rest:List Expr} {pos p p2 apos cpos:Pos} {ta tb tc te:W L} {x y:Str}
def wPar (i j:Nat) (ta tb:W L):W Fl:=fun ρ post=>ta ρ fun r ρ1=>toD r fun v=>tb ρ1 fun r2 ρ2=>toD r2 fun w=>post .nx ((ρ2.set i (.d v)).set j (.d w))
theorem pm_par {i j:Nat} {px py pt:Pos} {kt k2 pt2} (hc:X.calm=true) (hN:X.N.Nodup) (hi:X.N[i]?=some x) (hj:X.N[j]?=some y) (hij:i≠j)
  (hx:X.env.scope.names.lookup x=some .local) (hy:X.env.scope.names.lookup y=some .local) (ha:PL X a ta) (hb:PL X b tb)
  (hw:swappedStores [.Tuple [.Name x px,.Name y py] kt pt] (.Tuple [a,b] k2 pt2) X.env=pure (some [x,y]))
  (hs:swapsWithSole [.Tuple [.Name x px,.Name y py] kt pt] (.Tuple [a,b] k2 pt2) pos.line X.env=pure false:=by rfl)
  (h1:starEach [a,b] X.env=(false,eval a X.env)::starEach [b] X.env:=by rfl) (h2:starEach [b] X.env=[(false,eval b X.env)]:=by rfl) :
  PM X (.Assign [.Tuple [.Name x px,.Name y py] kt pt] (.Tuple [a,b] k2 pt2) pos) (wPar i j ta tb):=by
 refine PM.of (ps_par hc hN hi hj hij hx hy (pa_cons (pl_frz ha).pe (pa_cons (pl_frz hb).pe pa_nil h2) h1) hw hs) fun σ H Pr ρ post hlen E h=>?_
 refine ⟨Pr,ρ,fun r ρ1=>match r with
  | .d v=>tb ρ1 fun r2 ρ2=>toD r2 fun w=>post .nx ((ρ2.set i (.d v)).set j (.d w))
  | _=>False,E,h,fun v H1 r ρ1 E1 pp=>?_⟩
 cases r with
 | d dv =>
  refine ⟨butOwn H1 ρ1,ρ1,fun r ρ2=>match r with
   | .d w=>post .nx ((ρ2.set i (.d dv)).set j (.d w))
   | _=>False,E1.tail.wide,pp,fun w H2 r2 ρ2 E2 pp=>?_⟩
  cases r2 with
  | d dw =>
   have E3:REnv X.K Pr H2 (some w::some v::σ) (.d dw::.d dv::ρ2):=REnv.step (τ:=[some v]) (lam:=[.d dv]) (w:=[some w]) (μ:=[.d dw]) E1 rfl E2 rfl
   have il:i < σ.length:=by rw [hlen]; exact (List.getElem?_eq_some_iff.mp hi).1
   have jl:j < σ.length:=by rw [hlen]; exact (List.getElem?_eq_some_iff.mp hj).1
   obtain ⟨_,e1,r1⟩:=E3.head_d
   cases e1
   have E4:REnv X.K Pr H2 (σ.set i (some v)) (ρ2.set i (.d dv)):=E3.tail.store il
   exact ⟨v,w,rfl,_,(E4.cons_d r1).store (by simpa using jl),pp⟩
  | _=>exact pp.elim
 | _=>exact pp.elim
def wAsgT (is:List Nat) (te:W L):W Fl:=fun ρ post=>te ρ fun r ρ1=>toD r fun v=>tgTup is v ρ1 fun ρ2=>post .nx ρ2
theorem pm_asgT {tg:Expr} {is:List Nat} (hg:PT1 X tg (tgTup is)) (he:PL X e te) (hs:swapsWithSole [tg] e pos.line X.env=pure false:=by rfl) (hw:swappedStores [tg] e X.env=pure none:=by rfl)
  (h1:(assignEach [tg] X.env).map (·.2)=[assign tg X.env]:=by rfl):PM X (.Assign [tg] e pos) (wAsgT is te):=by
 intro pins s σ H Pr ρ post I E h
 obtain ⟨gg,hg,hgg⟩:=hg
 refine wpAny_Assign_stores (thn (he pins s σ H Pr ρ _ I E h) fun v s1 q=>?_) hs hw
 obtain ⟨w,H1,d,ρ1,I1,r1,E1,q1⟩:=EL.frz (post:=fun d ρ1=>tgTup is d ρ1 fun ρ2=>post .nx ρ2) q
 rw [h1]
 obtain ⟨_,e1,p1⟩:=E1.head_d
 cases e1
 exact thn (hg pins s1 σ H1 w v _ I1 r1 (hgg w σ H1 Pr ρ1 d _ I1.len E1.tail p1 q1)) fun _ s2 ⟨σ',H',I',e',_,ρ',E',q⟩=>by
  subst e'
  exact ⟨σ',_,ρ',I',E',q⟩
def PO' (X:Cx) (lo:Option Expr) (t:Option (W L)):Prop:=match lo,t with
 | none,none=>True
 | some e,some t=>PL X e t
 | _,_=>False
theorem cutV_reps {K:PySem.W.Frag} {H:Hp} {vs:List V} {xs:List D} (r:Reps K H vs xs) (l u:Option Int):Reps K H (cutV vs l u) (cutD xs l u):=by
 unfold cutV cutD
 rw [r.length]
 exact (r.drop _).take _
def tPO (K:PySem.W.Frag) (t:Option (W L)):TO:=fun σ H Q=>∃ Pr ρ post,REnv K Pr H σ ρ∧wPart t ρ post∧∀ i H' ρ',REnv K Pr H' σ ρ'→post i ρ'→Q i H'
theorem po_of {lo:Option Expr} {t:Option (W L)} (h:PO' X lo t):PO X lo (tPO X.K t):=by
 cases lo with
 | none =>
  cases t with
  | none =>
   intro pins s σ H Q I ⟨Pr,ρ,post,E,hw,q⟩
   exact po_none pins s σ H Q I (q none H ρ E hw)
  | some t=>exact h.elim
 | some e =>
  cases t with
  | none=>exact h.elim
  | some t =>
   intro pins s σ H Q I ⟨Pr,ρ,post,E,hw,q⟩
   refine po_some (PL.pe (show PL X e t from h)) pins s σ H Q I ⟨Pr,ρ,_,E,hw,fun v H' r ρ' E' pp=>?_⟩
   obtain ⟨i,rfl,pp⟩:=toInt_is pp
   obtain ⟨_,e1,p1⟩:=E'.head_d
   cases e1
   cases p1
   exact ⟨i,rfl,q (some i) H' ρ' E'.tail pp⟩
end
end L2
namespace L2
open PySem PySem.Spec PyProof.Rows
section
variable {X:Cx} {e a b c:Expr} {es rest:List Expr} {pos p p2 p3 p4 apos cpos:Pos} {ta tb tc te:W L} {x y:Str} {k4:Nat}
end
def selW {α:Type} (o:Option L) (t u:W α) (ρ:Ev) (post:α→Ev→Prop):Prop:=match o with
 | some (.own _ _)=>t ρ post
 | _=>u ρ post
def wIsOwn {α:Type} (i:Nat) (t u:W α):W α:=fun ρ post=>selW ρ[i]? t u ρ post
theorem selW_own {α:Type} (a:Addr) (xs:List D) (t u:W α) (ρ:Ev) (post:α→Ev→Prop):selW (some (.own a xs)) t u ρ post=t ρ post:=(rfl)
theorem selW_d {α:Type} (x:D) (t u:W α) (ρ:Ev) (post:α→Ev→Prop):selW (some (.d x)) t u ρ post=u ρ post:=(rfl)
theorem selW_bx {α:Type} (a:Option Addr) (ls:List L) (t u:W α) (ρ:Ev) (post:α→Ev→Prop):selW (some (.bx a ls)) t u ρ post=u ρ post:=(rfl)
theorem pl_own {X:Cx} {e:Expr} {i:Nat} {t u:W L} (h:PL X e t) (h':PL X e u):PL X e (wIsOwn i t u):=fun pins s σ H Pr ρ post I E q=>by
 unfold wIsOwn selW at q
 split at q
 ·
  exact h pins s σ H Pr ρ post I E q
 ·
  exact h' pins s σ H Pr ρ post I E q
theorem kit_exc {K:PySem.W.Frag} {c:Str} {C:Addr} {T:String} (h:excStd K c C=true) (hm:PySem.W.kitMeta T=true):PySem.W.kitOne K (.ref C) (.type T)=some ((["ValueError","Exception","BaseException","object"]:List String).contains T):=by
 obtain ⟨L,cd,S⟩:=excStd_is h
 unfold PySem.W.kitOne PySem.W.kitCls
 rw [if_neg (show ¬ ((Value.ref C == Value.type T)=true) from fun z=>by cases z)]
 dsimp only
 rw [if_pos hm]
 show PySem.W.mroIn K C (.type T)=_
 rw [S.mroIn,xmro_type]
theorem kit_of {T:String} (h0:∀ K d,(∀ c ns xs,d≠.exc c ns xs)→PySem.W.kitOne K (tyD d) (.type T)=some (isTy T d)) (hm:PySem.W.kitMeta T=true):∀ K d t,TyD K d t→PySem.W.kitOne K t (.type T)=some (isTy T d):=by
 intro K d t h
 cases d with
 | exc c ns xs =>
  obtain ⟨C,e,h⟩:=h
  rw [e]
  exact kit_exc h hm
 | _=>cases h; exact h0 K _ (fun _ _ _ z=>nomatch z)
theorem kit_list:∀ K d t,TyD K d t→PySem.W.kitOne K t (.type "list")=some (isTy "list" d):=kit_of (fun K d hd=>by cases d <;> first | rfl | exact absurd rfl (hd _ _ _)) (by decide +kernel)
end L2
namespace L2
open PySem PySem.Spec PyProof.Rows
def GlobT (K:PySem.W.Frag) (mg:Str→Option Value) (x:Str) (d:D):Prop:=∃ v u,mg x=some u∧RelV v u∧∀ H,Rep K H v d
theorem pl_G {X:Cx} {x:Str} {d:D} {pos:Pos} (g:GlobT X.K X.mg x d) (hg:Gl X x) (hdb:(x == ("__debug__" : Str))=false:=by decide):PL X (.Name x pos) (wC d):=by
 obtain ⟨v,u,h1,h2,h3⟩:=g
 exact pl_glob hg h1 h2 h3 hdb
def GlobO (o:Obj) (d:D):Prop:=∃ its n vs ds,d=.tup ds∧o.cls=.type "tuple"∧o.data=.seq its n∧its.size≤sizeLine∧Vals vs its.toList∧∀ K H,Reps K H vs ds
theorem globT_mk {K:PySem.W.Frag} {mg:Str→Option Value} {x:Str} {d:D} {l:Addr} {o:Obj} (h1:mg x=some (.ref l)) (h2:K.lookup l=some o) (h3:GlobO o d):GlobT K mg x d:=by
 obtain ⟨its,n,vs,ds,rfl,hc,hd,hz,hv,hr⟩:=h3
 exact ⟨.ref l,_,h1,rfl,fun H=>.tup (.inr ⟨o,its,n,h2,hc,hd,hz,hv⟩) (hr K H)⟩
theorem reps_ints {K:PySem.W.Frag} {H:Hp}:∀ ns:List Int,Reps K H (ns.map V.int) (ns.map D.int)
 | []=>.nil
 | n::ns=>.cons (.int n) (reps_ints ns)
theorem law_start {K:PySem.W.Frag} {H:Hp} {a:Addr} {ns:List Int} {fs:FS} {n:Nat} (hl:ns.length≤n) (hO:Only H) (hS:SqL K H a (ns.map V.int)) (h:fs [.d (.lst (ns.map .int))] (fun r _=>r=.d (.bl true))):spF K 1 fs [.ref a] H (fun v _=>v=.bl true) fun _ _ _=>False:=by
 have hz:SqZ K H a (ns.map V.int):=by
  rcases hS with (h | ⟨o,h⟩) | h
  ·
   rcases hO a with z | ⟨o,xs,z⟩
   ·
    rw [z] at h; cases h
   ·
    rw [z] at h; cases h
  ·
   exact .inl ⟨o,h⟩
  ·
   exact .inr h
 refine ⟨rfl,fun _=>none,[.d (.lst (ns.map .int))],_,⟨(fun b o e=>nomatch e),(show ([]:List Addr).Nodup from List.nodup_nil),(fun a h=>absurd (show a∈([]:List Addr) from h) (by simp)),.cons ⟨.ref a,rfl,.lst hz (reps_ints ns)⟩ .nil⟩,h,fun v H' r ls' E p=>?_⟩
 subst p
 obtain ⟨_,e,r⟩:=E.head_d
 cases e
 cases r
 rfl
section
variable {X:Cx}
end
end L2
namespace L2
open PySem
theorem gcd_fmod (a b:Int):Int.gcd b (a.fmod b)=Int.gcd a b:=by
 rw [Int.fmod_def,Int.gcd_sub_mul_left_right,Int.gcd_comm]
theorem natAbs_fmod_lt (a:Int) {b:Int} (h:b≠0):(a.fmod b).natAbs < b.natAbs:=by
 rw [Int.fmod_eq_emod]
 have h1:=Int.emod_nonneg a h
 have h2:a % b < (b.natAbs:Int):=Int.emod_lt a h
 split
 ·
  omega
 ·
  rename_i q
  have:a % b≠0:=fun e=>q (.inr (Int.dvd_of_emod_eq_zero e))
  omega
def frD (q:Rat):D:=.tup [.int q.num,.int (q.den:Int)]
theorem gcd_pos {t b:Int} (h:b≠0):0 < Int.gcd t b:=Int.gcd_pos_of_ne_zero_right _ h
def shareOf (t b:Int):Int:=if b < 0 then -(Int.gcd t b:Int) else (Int.gcd t b:Int)
theorem share_ne {t b:Int} (h:b≠0):shareOf t b≠0:=by
 have:=gcd_pos (t:=t) h
 unfold shareOf
 split <;> omega
theorem share_abs (t b:Int):(shareOf t b).natAbs=Int.gcd t b:=by
 unfold shareOf
 split <;> omega
theorem share_le {t b:Int} (h:b≠0):(shareOf t b).natAbs≤b.natAbs:=by
 rw [share_abs]
 exact Nat.le_of_dvd (by omega) (by have:=Int.gcd_dvd_right t b; exact Int.natAbs_dvd_natAbs.mpr this |> fun q=>by simpa using q)
theorem fdiv_neg_of {a g:Int} (hg:g≠0) (h:g∣a):a.fdiv (-g)=-(a / g):=by
 obtain ⟨k,rfl⟩:=h
 rw [Int.mul_ediv_cancel_left _ hg,show g*k=(-g)*(-k) by rw [Int.neg_mul_neg],Int.mul_fdiv_cancel_left _ (by omega)]
theorem low_num {t b:Int} (h:b≠0):t.fdiv (shareOf t b)=(Rat.divInt t b).num:=by
 have hg:=gcd_pos (t:=t) h
 have hd:(Int.gcd t b:Int)∣t:=Int.gcd_dvd_left t b
 rw [Rat.num_divInt,Int.gcd_comm b t]
 unfold shareOf
 split
 ·
  rename_i hb
  rw [fdiv_neg_of (by omega) hd,Int.sign_eq_neg_one_of_neg hb,Int.neg_one_mul,Int.neg_ediv_of_dvd hd]
 ·
  rename_i hb
  rw [Int.sign_eq_one_of_pos (by omega),Int.one_mul,Int.fdiv_eq_ediv_of_nonneg _ (by omega)]
theorem low_den {t b:Int} (h:b≠0):b.fdiv (shareOf t b)=((Rat.divInt t b).den:Int):=by
 have hg:=gcd_pos (t:=t) h
 have hd:(Int.gcd t b:Int)∣b:=Int.gcd_dvd_right t b
 rw [Rat.den_divInt,if_neg h,Int.gcd_comm b t,Int.natCast_ediv]
 unfold shareOf
 split
 ·
  rename_i hb
  rw [fdiv_neg_of (by omega) hd,← Int.neg_ediv_of_dvd hd]
  congr 1
  omega
 ·
  rename_i hb
  rw [Int.fdiv_eq_ediv_of_nonneg _ (by omega)]
  congr 1
  omega
theorem den_le {t b:Int} (h:b≠0):(Rat.divInt t b).den≤b.natAbs:=by
 rw [Rat.den_divInt,if_neg h]
 exact Nat.div_le_self _ _
theorem num_le {t b:Int} (h:b≠0):(Rat.divInt t b).num.natAbs≤t.natAbs:=by
 rw [← low_num h]
 exact PySem.natAbs_fdiv_le _ _
theorem den_pos (q:Rat):0 < q.den:=Nat.pos_of_ne_zero q.den_nz
theorem add_eq (p q:Rat):Rat.divInt (p.num*(q.den:Int)+q.num*(p.den:Int)) ((p.den:Int)*(q.den:Int))=p+q:=by
 have hp:=den_pos p
 have hq:=den_pos q
 have:=Rat.divInt_add_divInt p.num q.num (d₁:=(p.den:Int)) (d₂:=(q.den:Int)) (by omega) (by omega)
 rw [Rat.num_divInt_den,Rat.num_divInt_den] at this
 exact this.symm
def RB (n:Nat) (q:Rat):Prop:=q.num.natAbs < 2 ^ n∧q.den < 2 ^ n
theorem RB.mono {m n:Nat} {q:Rat} (h:RB m q) (hl:m≤n):RB n q:=⟨Nat.lt_of_lt_of_le h.1 (Nat.pow_le_pow_right (by decide) hl),Nat.lt_of_lt_of_le h.2 (Nat.pow_le_pow_right (by decide) hl)⟩
theorem RB.bn {n:Nat} {q:Rat} (h:RB n q) (hl:n≤1000000):bitsOk q.num:=Nat.lt_of_lt_of_le h.1 (Nat.pow_le_pow_right (by decide) hl)
theorem RB.bd {n:Nat} {q:Rat} (h:RB n q) (hl:n≤1000000):bitsOk (q.den:Int):=by
 unfold bitsOk
 rw [Int.natAbs_natCast]
 exact Nat.lt_of_lt_of_le h.2 (Nat.pow_le_pow_right (by decide) hl)
theorem mul_lt_pow {a b m n:Nat} (h1:a < 2 ^ m) (h2:b < 2 ^ n):a*b < 2 ^ (m+n):=by
 rw [Nat.pow_add]
 exact Nat.mul_lt_mul'' h1 h2
theorem RB.add {m n:Nat} {p q:Rat} (hp:RB m p) (hq:RB n q):RB (m+n+1) (p+q):=by
 have dp:=den_pos p
 have dq:=den_pos q
 have hne:((p.den:Int)*(q.den:Int))≠0:=Int.mul_ne_zero (by omega) (by omega)
 rw [← add_eq p q]
 have a1:=mul_lt_pow hp.1 hq.2
 have a2:=mul_lt_pow hq.1 hp.2
 have a3:=mul_lt_pow hp.2 hq.2
 have e:(2:Nat) ^ (m+n+1)=2 ^ (m+n)+2 ^ (m+n):=by rw [Nat.pow_succ]; omega
 rw [Nat.add_comm n m] at a2
 constructor
 ·
  refine Nat.lt_of_le_of_lt (num_le hne) ?_
  refine Nat.lt_of_le_of_lt (Int.natAbs_add_le _ _) ?_
  rw [Int.natAbs_mul,Int.natAbs_mul,Int.natAbs_natCast,Int.natAbs_natCast,e]
  omega
 ·
  refine Nat.lt_of_le_of_lt (den_le hne) ?_
  rw [Int.natAbs_mul,Int.natAbs_natCast,Int.natAbs_natCast,e]
  omega
theorem den_add_le (p q:Rat):(p+q).den≤p.den*q.den:=by
 have dp:=den_pos p
 have dq:=den_pos q
 have hne:((p.den:Int)*(q.den:Int))≠0:=Int.mul_ne_zero (by omega) (by omega)
 rw [← add_eq p q]
 have:=den_le (t:=p.num*(q.den:Int)+q.num*(p.den:Int)) hne
 rw [Int.natAbs_mul,Int.natAbs_natCast,Int.natAbs_natCast] at this
 exact this
end L2
namespace L2
open PySem
@[simp] theorem eqD_int (i j:Int):eqD (.int i) (.int j)=decide (i=j):=by
 simp [eqD,toP,PyData.eqv]
 by_cases h:i=j <;> simp [h]
@[simp] theorem eqD_str (i j:Str):eqD (.str i) (.str j)=decide (i=j):=by
 simp [eqD,toP,PyData.eqv]
 by_cases h:i=j <;> simp [h]
@[simp] theorem eqD_bl (i j:Bool):eqD (.bl i) (.bl j)=decide (i=j):=by
 simp [eqD,toP,PyData.eqv]
 cases i <;> cases j <;> rfl
@[simp] theorem shapeD_int (i:Int):shapeD (.int i):=rfl
@[simp] theorem shapeD_bl (i:Bool):shapeD (.bl i):=rfl
@[simp] theorem shapeD_non:shapeD .non:=rfl
mutual
def okD:Nat→D→Bool
 | _,.non=>true
 | _,.bl _=>true
 | _,.int _=>true
 | _,.str x=>PyData.strOk x
 | 0,.tup _=>false
 | 0,.lst _=>false
 | n+1,.tup xs=>okDs n xs
 | n+1,.lst xs=>okDs n xs
 | _,.dct _=>false
 | _,.exc _ _ _=>false
def okDs:Nat→List D→Bool
 | _,[]=>true
 | n,x::xs=>okD n x && okDs n xs
end
mutual
theorem okD_lay:∀ (n:Nat) (d:D),okD n d=true→(toP d).canLay0=true∧(toP d).depth≤n
 | _,.non,_=>⟨rfl,Nat.zero_le _⟩
 | _,.bl _,_=>⟨rfl,Nat.zero_le _⟩
 | _,.int _,_=>⟨rfl,Nat.zero_le _⟩
 | _,.str x,h=>⟨by simpa [okD,toP,PyData.canLay0] using h,Nat.zero_le _⟩
 | 0,.tup _,h=>by simp [okD] at h
 | 0,.lst _,h=>by simp [okD] at h
 | n+1,.tup xs,h=>by
  obtain ⟨h1,h2⟩:=okDs_lay n xs (by simpa [okD] using h)
  exact ⟨h1,Nat.succ_le_succ h2⟩
 | n+1,.lst xs,h=>by
  obtain ⟨h1,h2⟩:=okDs_lay n xs (by simpa [okD] using h)
  exact ⟨h1,Nat.succ_le_succ h2⟩
 | _,.dct _,h=>by simp [okD] at h
 | _,.exc _ _ _,h=>by simp [okD] at h
theorem okDs_lay:∀ (n:Nat) (ds:List D),okDs n ds=true→PyData.canLayAll0 (toPs ds)=true∧PyData.depthAll (toPs ds)≤n
 | _,[],_=>⟨rfl,Nat.zero_le _⟩
 | n,d::ds,h=>by
  have h':okD n d=true∧okDs n ds=true:=by simpa [okDs] using h
  obtain ⟨a1,a2⟩:=okD_lay n d h'.1
  obtain ⟨b1,b2⟩:=okDs_lay n ds h'.2
  exact ⟨by simp [toPs,PyData.canLayAll0,a1,b1],by simp only [toPs,PyData.depthAll]; omega⟩
end
theorem shape_ok {n:Nat} {d:D} (h:okD n d=true) (hn:n≤64):shapeD d:=by
 obtain ⟨h1,h2⟩:=okD_lay n d h
 unfold shapeD SeqAt.shaped
 rw [h1,decide_eq_true (by omega)]
 rfl
theorem eqD_tup (xs ys:List D):eqD (.tup xs) (.tup ys)=PyData.eqvAll (toPs xs) (toPs ys):=by simp [eqD,toP,PyData.eqv]
theorem eqDs_cons (x y:D) (xs ys:List D):PyData.eqvAll (toPs (x::xs)) (toPs (y::ys))=(eqD x y && PyData.eqvAll (toPs xs) (toPs ys)):=by simp [toPs,PyData.eqvAll,eqD]
theorem eqDs_nil:PyData.eqvAll (toPs []) (toPs [])=true:=by simp [toPs,PyData.eqvAll]
theorem eqD_refl {n:Nat} {d:D} (h:okD n d=true):eqD d d=true:=SeqAt.eqv_refl _ (okD_lay n d h).1
theorem shape_fr (q:Rat):shapeD (frD q):=shape_ok (n:=1) (by simp [frD,okD,okDs]) (by decide)
theorem eqD_fr (p q:Rat):eqD (frD p) (frD q)=decide (p=q):=by
 unfold frD
 rw [eqD_tup,eqDs_cons,eqDs_cons,eqDs_nil,eqD_int,eqD_int,Bool.and_true]
 by_cases h:p=q
 ·
  subst h; simp
 ·
  rw [decide_eq_false h]
  by_cases h1:p.num=q.num
  ·
   have:¬ ((p.den:Int)=(q.den:Int)):=fun e=>h (Rat.ext h1 (by omega))
   simp [this]
  ·
   simp [h1]
end L2
namespace L2
open PySem PySem.Spec PyProof.Rows
section
variable {X:Cx} {e a b c:Expr} {es rest:List Expr} {pos p p2 apos cpos:Pos} {ta tb tc te:W L} {x y:Str}
def wChain (o o':Op2) (ta tb tc:W L):W L:=fun ρ post=>ta ρ fun r ρ1=>toInt r fun i=>tb ρ1 fun r ρ2=>toInt r fun j=>o (.int i) (.int j) fun z=>isBl z fun k=>if k=true then tc ρ2 fun r ρ3=>toInt r fun l=>o' (.int j) (.int l) fun z=>post z ρ3 else post (.d (.bl false)) ρ2
def CmpI (X:Cx) (op:CmpOp) (o:Op2):Prop:=∃ f:Int→Int→Bool,OpR X (compareOp op) (rI0 fun i j=>.bl (f i j))∧∀ i j k,o (.int i) (.int j) k→k (.d (.bl (f i j)))
theorem ci_lt:CmpI X .Lt opLt:=⟨_,op_lt,fun _ _ _ h=>h⟩
theorem ci_le:CmpI X .LtE opLe:=⟨_,op_le,fun _ _ _ h=>h⟩
theorem chain_te {op op':CmpOp} {o o':Op2} {f f':Int→Int→Bool} (h1:∀ i j k,o (.int i) (.int j) k→k (.d (.bl (f i j)))) (h2:∀ i j k,o' (.int i) (.int j) k→k (.d (.bl (f' i j))))
  (σ:St) (H Pr:Hp) (ρ:Ev) (post:L→Ev→Prop) (Q:VK) (hQ:∀ v H' r ρ',REnv X.K Pr H' (some v::σ) (r::ρ')→post r ρ'→Q v H') (E:REnv X.K Pr H σ ρ) (h:wChain o o' ta tb tc ρ post) :
  tChain (rI0 fun i j=>.bl (f i j)) (rI0 fun i j=>.bl (f' i j)) (tL X.K ta) (tL X.K tb) (tL X.K tc) σ H Q:=by
 refine ⟨Pr,ρ,_,E,h,fun v H1 r ρ1 E1 p=>?_⟩
 obtain ⟨i,rfl,p⟩:=toInt_is p
 obtain ⟨_,e1,r1⟩:=E1.head_d
 cases e1
 cases r1
 refine ⟨Pr,ρ1,_,E1.tail,p,fun v H2 r ρ2 E2 p=>?_⟩
 obtain ⟨j,rfl,p⟩:=toInt_is p
 obtain ⟨_,e1,r1⟩:=E2.head_d
 cases e1
 cases r1
 refine ⟨i,j,rfl,rfl,f i j,rfl,?_⟩
 have q:=h1 i j _ p
 cases hk:f i j with
 | false =>
  rw [hk] at q
  exact hQ _ _ _ ρ2 (E2.tail.cons_d (.bl false)) q
 | true =>
  rw [hk] at q
  refine ⟨Pr,ρ2,_,E2.tail,q,fun v H3 r ρ3 E3 p=>?_⟩
  obtain ⟨l,rfl,p⟩:=toInt_is p
  obtain ⟨_,e1,r1⟩:=E3.head_d
  cases e1
  cases r1
  exact ⟨j,l,rfl,rfl,hQ _ _ _ ρ3 (E3.tail.cons_d (.bl _)) (h2 j l _ p)⟩
theorem pl_chain {op op':CmpOp} {o o':Op2} (ho:CmpI X op o) (ho':CmpI X op' o') (ha:PL X a ta) (hb:PL X b tb) (hc:PL X c tc) (hm:lastMarks [op,op'] [b,c]=false:=by with_unfolding_all rfl) :
  PL X (.Compare a [op,op'] [b,c] pos) (wChain o o' ta tb tc):=by
 obtain ⟨f,r1,h1⟩:=ho
 obtain ⟨f',r2,h2⟩:=ho'
 exact PL.of (pe_chain r1 r2 ha.pe hb.pe hc.pe hm) fun σ H Pr ρ post E h=>chain_te (op:=op) (op':=op') h1 h2 σ H Pr ρ post _ (fun v H' r ρ' E' p=>⟨r,ρ',E',p⟩) E h
end
end L2
namespace L2
open PySem PySem.Spec PyProof.Rows PySem.Builtin.Str
section
variable {X:Cx} {e a b c:Expr} {es rest:List Expr} {pos p p2 apos cpos:Pos} {ta tb tc te:W L} {x y:Str}
theorem sl_str:SlR X (fun x lo hi H Q=>∃ z,x=.str z∧z.length≤sizeLine∧Q (.str (Txt.slice z lo hi)) H):=by
 intro pins s σ H x v vl vu lo hi sl Q I rx hs pl pu h
 obtain ⟨z,rfl,hz,q⟩:=h
 obtain ⟨t,rfl⟩:=rx
 refine ⟨"str",_,F.slot_str_getitem.lookup,typeIs_str _ _ _,?_⟩
 obtain ⟨l',rfl,rfl⟩:∃ l':Option (Int×Tok),vl=partValue l'∧lo=l'.map (·.1):=by
  cases pl
  ·
   exact ⟨none,rfl,rfl⟩
  ·
   exact ⟨some (_,_),rfl,rfl⟩
 obtain ⟨u',rfl,rfl⟩:∃ l':Option (Int×Tok),vu=partValue l'∧hi=l'.map (·.1):=by
  cases pu
  ·
   exact ⟨none,rfl,rfl⟩
  ·
   exact ⟨some (_,_),rfl,rfl⟩
 exact wpAny_getItem_str_slice (l:=l') (u:=u') (st:=none) hs rfl (post_val_or_str ⟨Nat.le_trans (Txt.slice_le z _ _) hz,fun t' k=>⟨.str _,H,I.tok k,⟨t',rfl⟩,q⟩⟩)
def wSl2 (ta:W L) (lo hi:Option (W L)):W L:=fun ρ post=>ta ρ fun r ρ1=>toD r fun d=>wPart lo ρ1 fun l ρ2=>wPart hi ρ2 fun u ρ3=>match d with
 | .lst xs=>∀ a,post (.own a (cutD xs l u)) ρ3
 | .str z=>z.length≤sizeLine∧post (.d (.str (Txt.slice z l u))) ρ3
 | .tup xs=>¬ (HT.sIx xs.length 0 l=0∧HT.sIx xs.length xs.length u=xs.length)∧post (.d (.tup (cutD xs l u))) ρ3
 | _=>False
theorem pl_slice2 {lo hi:Option Expr} {tl th:Option (W L)} (ha:PL X a ta) (hl:PO' X lo tl) (hh:PO' X hi th):PL X (.Subscript a (.Slice lo hi none p2) pos) (wSl2 ta tl th):=by
 refine PL.of (pe_slice (SlR.or sl_list (SlR.or sl_str sl_tup)) (pl_frz ha).pe (po_of hl) (po_of hh)) fun σ H Pr ρ post E h=>?_
 refine ⟨Pr,ρ,fun r ρ1=>match r with
  | .d d=>wPart tl ρ1 fun l ρ2=>wPart th ρ2 fun u ρ3=>match d with
   | .lst xs=>∀ a,post (.own a (cutD xs l u)) ρ3
   | .str z=>z.length≤sizeLine∧post (.d (.str (Txt.slice z l u))) ρ3
   | .tup xs=>¬ (HT.sIx xs.length 0 l=0∧HT.sIx xs.length xs.length u=xs.length)∧post (.d (.tup (cutD xs l u))) ρ3
   | _=>False
  | _=>False,E,h,fun v H1 r ρ1 E1 pp=>?_⟩
 cases r with
 | d d =>
  obtain ⟨_,e1,p1⟩:=E1.head_d
  cases e1
  refine ⟨butOwn H1 ρ1,ρ1,_,E1.tail.wide,pp,fun l H2 ρ2 E2 pp=>?_⟩
  have F2:REnv X.K Pr H2 (some v::σ) (.d d::ρ2):=REnv.step (τ:=[some v]) (lam:=[.d d]) (w:=[]) (μ:=[]) E1 rfl E2 rfl
  refine ⟨butOwn H2 ρ2,ρ2,_,F2.tail.wide,pp,fun u H3 ρ3 E3 pp=>?_⟩
  have F3:REnv X.K Pr H3 (some v::σ) (.d d::ρ3):=REnv.step (τ:=[some v]) (lam:=[.d d]) (w:=[]) (μ:=[]) F2 rfl E3 rfl
  obtain ⟨_,e1,p1⟩:=F3.head_d
  cases e1
  cases p1 with
  | lst hz rs=>exact .inl ⟨_,_,rfl,hz.l,fun q hq=>⟨_,_,F3.tail.cons_own hq (cutV_reps rs l u),pp q⟩⟩
  | str z=>exact .inr (.inl ⟨z,rfl,pp.1,_,_,F3.tail.cons_d (.str _),pp.2⟩)
  | tup hz rs=>exact .inr (.inr ⟨_,_,rfl,hz,by rw [rs.length]; exact pp.1,fun q hq=>⟨_,_,F3.tail.cons_tup hq (cutV_reps rs l u),pp.2⟩⟩)
  | _=>exact pp.elim
 | _=>exact pp.elim
def rJoin (K:PySem.W.Frag):V→List V→Hp→VK→Prop:=fun x vs H Q=>∃ z a ys zs,x=.str z∧vs=[.ref a]∧(SqL K H a ys∨SqT K H a ys)∧ys=zs.map V.str∧(zs.map (·.length)).sum+zs.length*z.length≤16777216∧Q (.str (Txt.join z zs)) H
theorem vals_strs:∀ {zs:List Str} {us:List Value},Vals (zs.map V.str) us→StrsAre us zs
 | [],_,.nil=>.nil
 | z::zs,_,.cons r t=>by
  obtain ⟨t',rfl⟩:=r
  exact .cons z t' (vals_strs t)
theorem mt_join:MtR X "str.join" (rJoin X.K):=by
 intro pins s σ H x vs v us Q I rx rv h
 obtain ⟨z,a,ys,zs,rfl,rfl,hq,rfl,hz,q⟩:=h
 obtain ⟨t,rfl⟩:=rx
 obtain ⟨u,rfl,ru⟩:=rv.one
 cases ru
 rcases hq with hq | hq
 ·
  obtain ⟨its,r,pl,_⟩:=I.list hq
  exact join_list pl.isList (by simpa using vals_strs r) hz fun t' k=>⟨.str _,H,I.tok k,⟨t',rfl⟩,q⟩
 ·
  obtain ⟨its,r,pl,_⟩:=I.tuple hq
  exact join_tuple pl (by simpa using vals_strs r) hz fun t' k=>⟨.str _,H,I.tok k,⟨t',rfl⟩,q⟩
end
end L2
namespace L2
open PySem PySem.Spec PyProof.Rows PySem.Builtin.Str
section
variable {X:Cx} {e a b c:Expr} {es rest:List Expr} {pos p p2 apos cpos:Pos} {ta tb tc te:W L} {x y:Str}
def wJoin (z:Str) (te:W L):W L:=fun ρ post=>te ρ fun r ρ1=>toD r fun d=>itemsOf d fun xs=>∃ zs,xs=zs.map D.str∧(zs.map (·.length)).sum+zs.length*z.length≤16777216∧post (.d (.str (Txt.join z zs))) ρ1
theorem reps_strs {K:PySem.W.Frag} {H:Hp}:∀ {zs:List Str} {vs:List V},Reps K H vs (zs.map D.str)→vs=zs.map V.str
 | [],_,.nil=>rfl
 | z::zs,_,.cons r t=>by
  cases r
  rw [reps_strs t]
  rfl
theorem pl_join {z:Str} {j:Nat} {pz:Pos} (he:PL X e te) (hs1:starEach [e] X.env=[(false,eval e X.env)]:=by rfl) (hbase:attributeBase (.Constant (.str z) j pz) "join" X.env (eval (.Constant (.str z) j pz) X.env)=eval (.Constant (.str z) j pz) X.env:=by rfl)
  (hfew:((backTo cpos (starEach [e] X.env)).all (fun x=>!x.1) && (backToKw cpos (keywordEach [] X.env)).all (fun x=>x.1.isSome)
   && decide (([e]).length+([]:List Keyword).length+(if ([]:List Keyword).isEmpty then 0 else 1) < 30))=true:=by rfl)
  (hline:(apos.endLine == cpos.line)=true:=by rfl) (hplain:(backTo cpos (starEach ([]:List Expr) X.env)).any (·.1)=false:=by rfl) :
  PL X (.Call (.Attribute (.Constant (.str z) j pz) "join" apos) [e] [] cpos) (wJoin z te):=by
 refine PL.of (pe_bm PySem.F.plainAttrs_str PySem.F.slot_str_join PySem.F.type_str_join mt_join pe_str (pa_cons (pl_frz he).pe pa_nil hs1) (hbase:=hbase) (hfew:=hfew) (hline:=hline) (hs:=hs1) (hplain:=hplain)) fun σ H Pr ρ post E h=>?_
 refine ⟨rfl,Pr,ρ,fun r ρ1=>match r with
  | .d d=>itemsOf d fun xs=>∃ zs,xs=zs.map D.str∧(zs.map (·.length)).sum+zs.length*z.length≤16777216∧post (.d (.str (Txt.join z zs))) ρ1
  | _=>False,E,h,fun v H' r ρ' E' pp=>?_⟩
 cases r with
 | d d =>
  obtain ⟨_,e1,p1⟩:=E'.head_d
  cases e1
  cases p1 with
  | lst hz rs =>
   obtain ⟨zs,rfl,hl,pp⟩:=pp
   exact ⟨z,_,_,zs,rfl,rfl,.inl hz.l,reps_strs rs,hl,_,_,E'.tail.cons_d (.str _),pp⟩
  | tup hz rs =>
   obtain ⟨zs,rfl,hl,pp⟩:=pp
   exact ⟨z,_,_,zs,rfl,rfl,.inr hz,reps_strs rs,hl,_,_,E'.tail.cons_d (.str _),pp⟩
  | _=>exact pp.elim
 | _=>exact pp.elim
end
end L2
namespace L2
open PySem PySem.Spec PyProof.Rows PySem.Builtin.Str
section
variable {X:Cx} {e a b c:Expr} {es rest:List Expr} {pos p p2 apos cpos:Pos} {ta tb tc te:W L} {x y:Str}
end
end L2
namespace L2
open PySem PySem.Spec PyProof.Rows PySem.Builtin.Str
section
variable {X:Cx} {e a b c:Expr} {es rest:List Expr} {pos p p2 apos cpos:Pos} {ta tb tc te:W L} {x y:Str}
end
end L2
namespace L2
open PySem PySem.Spec PyProof.Rows
mutual
def noL:D→Bool
 | .lst _=>false
 | .dct _=>false
 | .exc _ _ _=>false
 | .tup xs=>noLs xs
 | _=>true
def noLs:List D→Bool
 | []=>true
 | x::xs=>noL x && noLs xs
end
mutual
def noLr:L→Bool
 | .un=>true
 | .d x=>noL x
 | .own _ xs=>noLs xs
 | .bx _ ls=>noLrs ls
 | .dic _ kvs=>kvs.all fun p=>noL p.2
def noLrs:List L→Bool
 | []=>true
 | l::ls=>noLr l && noLrs ls
end
theorem noLr_un:noLr .un=true:=by simp [noLr]
theorem noLr_d (x:D):noLr (.d x)=noL x:=by simp [noLr]
theorem noLr_own (a:Addr) (xs:List D):noLr (.own a xs)=noLs xs:=by simp [noLr]
theorem noLr_bx (a:Option Addr) (ls:List L):noLr (.bx a ls)=noLrs ls:=by simp [noLr]
theorem noLr_dic (a:Addr) (kvs:List (Key×D)):noLr (.dic a kvs)=kvs.all fun p=>noL p.2:=by simp [noLr]
theorem noLrs_nil:noLrs []=true:=by simp [noLrs]
theorem noLrs_cons (l:L) (ls:List L):noLrs (l::ls)=(noLr l && noLrs ls):=by simp [noLrs]
section
variable {X:Cx} {pins:List (Addr×Obj)} {σ:St} {H:Hp} {s:Shared}
theorem Inv.thaw {a:Addr} {o:Obj} {xs:List V} (I:Inv X pins σ H s) (h:H a=some (.frz o (.lst xs))) (h0:∀ o u,X.H₀ a≠some (.frz o u)):Inv X pins σ (upd H a (.lst xs)) s:=by
 have ne:∀ b,H b=none→b≠a:=fun b n e=>by subst e; rw [h] at n; cases n
 have nt:∀ b xs,H b=some (.tup xs)→b≠a:=fun b xs n e=>by subst e; rw [h] at n; cases n
 have no:∀ b z,H b=some (.own z)→b≠a:=fun b z n e=>by subst e; rw [h] at n; cases n
 have nw:=(I.hok a _ h).2
 refine ⟨I.ok,I.os,I.bare,⟨I.base.keep,I.base.slot,fun b ob e n hx=>?_,I.base.there,fun b xs e=>?_,fun b ob z e=>?_,fun b ps e=>?_⟩,I.loc,I.cell,?_,fun x c e=>?_,fun p hp=>?_,fun b z e=>?_,I.len⟩
 ·
  have q:=I.base.free b ob e n hx
  rw [upd_ne (ne b q)]; exact q
 ·
  have q:=I.base.tups b xs e
  rw [upd_ne (nt b xs q)]; exact q
 ·
  have q:=I.base.frzs b ob z e
  rw [upd_ne (fun y=>by subst y; exact h0 _ _ e)]; exact q
 ·
  obtain ⟨more,q⟩:=I.base.tbls b ps e
  refine ⟨more,?_⟩
  rw [upd_ne (fun z=>by subst z; rw [h] at q; cases q)]; exact q
 ·
  rw [upd_ne (ne _ I.free)]; exact I.free
 ·
  rw [upd_ne (ne _ (I.freeC x c e))]; exact I.freeC x c e
 ·
  obtain ⟨e,n,r⟩:=I.pin p hp
  exact ⟨e,by rw [upd_ne (ne _ n)]; exact n,r⟩
 ·
  by_cases hb:b=a
  ·
   subst hb
   rw [upd_same] at e
   cases e
   exact nw.stay (fun c v _ q=>q) (fun c q=>by rw [upd_ne (no c _ q)]; exact q) fun c xs q=>by rw [upd_ne (nt c xs q)]; exact q
  ·
   rw [upd_ne hb] at e
   exact (I.hok b z e).stay (fun c v _ q=>q) (fun c q=>by rw [upd_ne (no c _ q)]; exact q) fun c xs q=>by rw [upd_ne (nt c xs q)]; exact q
end
def Thawed (H' H2:Hp) (S:List Addr):Prop:=(∀ b,b∉S→H2 b=H' b)∧(∀ a∈S,∃ o vs,H' a=some (.frz o (.lst vs))∧H2 a=some (.lst vs))
theorem thawAll {X:Cx} {pins:List (Addr×Obj)} {σ:St} {s:Shared}:∀ (S:List Addr) {H:Hp},S.Nodup→Inv X pins σ H s→(∀ a∈S,∃ o vs,H a=some (.frz o (.lst vs)))→(∀ a∈S,∀ o u,X.H₀ a≠some (.frz o u))→∃ H2,Inv X pins σ H2 s∧Thawed H H2 S
 | [],H,_,I,_,_=>⟨H,I,fun _ _=>rfl,fun _ h=>by simp at h⟩
 | a::S,H,nd,I,h,h0=>by
  obtain ⟨na,nd⟩:=List.nodup_cons.mp nd
  obtain ⟨o,vs,ea⟩:=h a List.mem_cons_self
  have I1:=I.thaw ea (h0 a List.mem_cons_self)
  obtain ⟨H2,I2,T1,T2⟩:=thawAll S nd I1 (fun b hb=>by
   obtain ⟨o,us,e⟩:=h b (List.mem_cons_of_mem _ hb)
   exact ⟨o,us,by rw [upd_ne (fun z:b=a=>na (by rw [← z]; exact hb))]; exact e⟩) fun b hb=>h0 b (List.mem_cons_of_mem _ hb)
  refine ⟨H2,I2,fun b hb=>?_,fun b hb=>?_⟩
  ·
   rw [T1 b (fun z=>hb (List.mem_cons_of_mem _ z)),upd_ne (fun z:b=a=>hb (by rw [z]; exact List.mem_cons_self))]
  ·
   rcases List.mem_cons.mp hb with rfl | hb
   ·
    exact ⟨o,vs,ea,by rw [T1 b na,upd_same]⟩
   ·
    obtain ⟨o',us,e1,e2⟩:=T2 b hb
    rw [upd_ne (fun z:b=a=>na (by rw [← z]; exact hb))] at e1
    exact ⟨o',us,e1,e2⟩
section
variable {K:PySem.W.Frag} {H' H2:Hp} {S:List Addr}
mutual
theorem Rep.thaw (T:Thawed H' H2 S):∀ {v:V} {d:D},noL d=true→Rep K H' v d→Rep K H2 v d
 | _,_,_,.non=>.non
 | _,_,_,.bl b=>.bl b
 | _,_,_,.int i=>.int i
 | _,_,_,.str x=>.str x
 | _,_,h,.tup hs r=>by
  refine .tup ?_ (Reps.thaw T (by simpa [noL] using h) r)
  rcases hs with (e | ⟨u,e⟩) | e
  ·
   exact .inl (.inl (by rw [T.1 _ fun z=>by obtain ⟨o,vs,e1,_⟩:=T.2 _ z; rw [e1] at e; cases e]; exact e))
  ·
   exact .inl (.inr ⟨u,by rw [T.1 _ fun z=>by obtain ⟨o,vs,e1,_⟩:=T.2 _ z; rw [e1] at e; cases e]; exact e⟩)
  ·
   exact .inr e
 | _,_,h,.lst hs r=>by simp [noL] at h
 | _,_,h,.dct e=>by simp [noL] at h
 | _,_,h,.exc _ _ _ _ _ _ _ _=>by simp [noL] at h
theorem Reps.thaw (T:Thawed H' H2 S):∀ {vs:List V} {ds:List D},noLs ds=true→Reps K H' vs ds→Reps K H2 vs ds
 | _,_,_,.nil=>.nil
 | _,_,h,.cons r t=>by
  simp only [noLs,Bool.and_eq_true] at h
  exact .cons (Rep.thaw T h.1 r) (Reps.thaw T h.2 t)
end
theorem Thawed.lst (T:Thawed H' H2 S) {a:Addr} {vs:List V} (h:H' a=some (.lst vs)):a∉S∧H2 a=some (.lst vs):=by
 have n:a∉S:=fun z=>by
  obtain ⟨o,us,e,_⟩:=T.2 a z
  rw [h] at e; cases e
 exact ⟨n,(T.1 a n).trans h⟩
theorem Thawed.tup (T:Thawed H' H2 S) {a:Addr} {vs:List V} (h:SqT K H' a vs):SqT K H2 a vs:=by
 rcases h with (e | ⟨u,e⟩) | e
 ·
  exact .inl (.inl (by rw [T.1 _ fun z=>by obtain ⟨o,vs,e1,_⟩:=T.2 _ z; rw [e1] at e; cases e]; exact e))
 ·
  exact .inl (.inr ⟨u,by rw [T.1 _ fun z=>by obtain ⟨o,vs,e1,_⟩:=T.2 _ z; rw [e1] at e; cases e]; exact e⟩)
 ·
  exact .inr e
mutual
theorem Slot1.thaw (T:Thawed H' H2 S):∀ {s:Option V} (l:L),noLr l=true→Slot1 K H' s l→Slot1 K H2 s l
 | _,.un,_,_=>by unfold Slot1; exact True.intro
 | _,.d x,h,q=>by
  unfold Slot1 at q ⊢
  obtain ⟨v,e,r⟩:=q
  exact ⟨v,e,r.thaw T (by simpa [noLr] using h)⟩
 | _,.own a xs,h,q=>by
  unfold Slot1 at q ⊢
  obtain ⟨e,vs,ha,r⟩:=q
  exact ⟨e,vs,(T.lst ha).2,r.thaw T (by simpa [noLr] using h)⟩
 | _,.bx none ls,h,q=>by
  unfold Slot1 at q ⊢
  obtain ⟨a,vs,e,ha,r⟩:=q
  exact ⟨a,vs,e,T.tup ha,Slots.thaw T ls (by simpa [noLr] using h) r⟩
 | _,.bx (some a) ls,h,q=>by
  unfold Slot1 at q ⊢
  obtain ⟨e,vs,ha,r⟩:=q
  exact ⟨e,vs,(T.lst ha).2,Slots.thaw T ls (by simpa [noLr] using h) r⟩
 | _,.dic a kvs,h,q=>by
  unfold Slot1 at q ⊢
  obtain ⟨e,vs,ha,r⟩:=q
  have h':∀ p∈kvs,noL p.2=true:=by simpa [noLr] using h
  refine ⟨e,vs,?_,Paired.impMem r fun p hp q z=>⟨z.1,z.2.thaw T (h' p hp)⟩⟩
  rw [T.1 a fun z=>by obtain ⟨o,us,e1,_⟩:=T.2 _ z; rw [e1] at ha; cases ha]
  exact ha
theorem Slots.thaw (T:Thawed H' H2 S):∀ {vs:List V} (ls:List L),noLrs ls=true→Slots K H' vs ls→Slots K H2 vs ls
 | _,[],_,q=>by unfold Slots at q ⊢; exact q
 | _,l::ls,h,q=>by
  unfold Slots at q ⊢
  simp only [noLrs,Bool.and_eq_true] at h
  obtain ⟨v,us,e,h1,h2⟩:=q
  exact ⟨v,us,e,Slot1.thaw T l h.1 h1,Slots.thaw T ls h.2 h2⟩
end
end
def flatL:L→Bool
 | .d _=>true
 | l=>noLr l
theorem flatL_un:flatL .un=true:=by simp [flatL,noLr]
theorem flatL_d (x:D):flatL (.d x)=true:=rfl
theorem flatL_own (a:Addr) (xs:List D):flatL (.own a xs)=noLs xs:=by simp [flatL,noLr]
theorem flatL_dic (a:Addr) (kvs:List (Key×D)):flatL (.dic a kvs)=kvs.all fun p=>noL p.2:=by simp [flatL,noLr]
theorem flatL_bx (a:Option Addr) (ls:List L):flatL (.bx a ls)=noLrs ls:=by simp [flatL,noLr]
def flatOwn (i:Nat) (ρ:Ev):Bool:=(ρ.set i .un).all flatL
theorem slots_thaw {K:PySem.W.Frag} {H0 H' H2:Hp} {S:List Addr} (T:Thawed H' H2 S) (p:Pres H0 H2):∀ {σ:St} {ρ ρ0:Ev},ρ.length=ρ0.length →
  (∀ (j:Nat) (l:L),ρ[j]?=some l→noLr l=true∨∃ x,l=.d x∧ρ0[j]?=some (.d x))→Paired (Slot1 K H0) σ ρ0→Paired (Slot1 K H') σ ρ→Paired (Slot1 K H2) σ ρ
 | [],[],_,_,_,_,_=>.nil
 | s::σ,l::ρ,l0::ρ0,hl,h,.cons q0 t0,.cons q t=>by
  refine .cons ?_ (slots_thaw T p (by simpa using hl) (fun j l e=>h (j+1) l e) t0 t)
  rcases h 0 l rfl with hh | ⟨x,rfl,e⟩
  ·
   exact q.thaw T l hh
  ·
   have e:l0=.d x:=by simpa using e
   subst e
   exact q0.pres p (.d x) fun a ha=>by simp [ownsL] at ha
 | [],_::_,_,_,_,_,t=>nomatch t
 | _::_,[],_,_,_,_,t=>nomatch t
mutual
theorem Slot1.lsts {K:PySem.W.Frag} {H:Hp}:∀ {s:Option V} (l:L) {x:D},Slot1 K H s l→eraseL l=some x→∀ a∈ownsL l,∃ vs,H a=some (.lst vs)
 | _,.un,_,_,_,a,ha=>by simp [ownsL] at ha
 | _,.d x,_,_,_,a,ha=>by simp [ownsL] at ha
 | _,.dic _ _,_,_,h,_,_=>by simp [eraseL] at h
 | _,.own b xs,_,h,_,a,ha=>by
  simp only [Slot1] at h
  have e:a=b:=by simpa [ownsL] using ha
  subst e
  obtain ⟨_,vs,q,_⟩:=h
  exact ⟨_,q⟩
 | _,.bx none ls,_,h,hx,a,ha=>by
  simp only [Slot1] at h
  simp only [eraseL,Option.map_eq_some_iff] at hx
  obtain ⟨xs,hx,_⟩:=hx
  obtain ⟨b,vs,e,_,r⟩:=h
  exact Slots.lsts ls r hx a (by simpa [ownsL] using ha)
 | _,.bx (some b) ls,_,h,hx,a,ha=>by
  simp only [Slot1] at h
  simp only [eraseL,Option.map_eq_some_iff] at hx
  obtain ⟨xs,hx,_⟩:=hx
  obtain ⟨e,vs,q,r⟩:=h
  rcases (by simpa [ownsL] using ha:a=b∨a∈ownsLs ls) with z | z
  ·
   subst z; exact ⟨_,q⟩
  ·
   exact Slots.lsts ls r hx a z
theorem Slots.lsts {K:PySem.W.Frag} {H:Hp}:∀ {vs:List V} (ls:List L) {xs:List D},Slots K H vs ls→eraseLs ls=some xs→∀ a∈ownsLs ls,∃ vs,H a=some (.lst vs)
 | _,[],_,_,_,a,ha=>by simp [ownsLs] at ha
 | _,l::ls,_,h,hx,a,ha=>by
  simp only [Slots] at h
  obtain ⟨v,us,e,h1,h2⟩:=h
  simp only [eraseLs] at hx
  split at hx
  ·
   rename_i x1 xs1 e1 e2
   rcases (by simpa [ownsLs] using ha:a∈ownsL l∨a∈ownsLs ls) with z | z
   ·
    exact Slot1.lsts l h1 e1 a z
   ·
    exact Slots.lsts ls h2 e2 a z
  ·
   cases hx
end
theorem peek_core {X:Cx} {pins:List (Addr×Obj)} {σ0:St} {s s1:Shared} {Pr H H1 H':Hp} {σ τ:St} {ρ lam:Ev} {i:Nat} {k:L} {x:D} {v:Option V} (I:Inv X pins σ0 H s) (E:REnv X.K Pr H σ ρ) (hi:ρ[i]?=some k) (hSa:∀ a∈ownsL k,∃ vs,H a=some (.lst vs)) (F:Frozen H H1 (ownsL k)) (hfl:flatOwn i ρ=true)
  (I':Inv X pins σ0 H' s1) (E1:REnv X.K Pr H1 σ (ρ.set i (.d x))) (E':REnv X.K (butOwn H1 (ρ.set i (.d x))) H' (τ++σ) (lam++ρ.set i (.d x))) (hlen:τ.length=lam.length) (hr:lam.all noLr=true):∃ H2,Inv X pins σ0 H2 s1∧REnv X.K Pr H2 (τ++σ) (lam++ρ):=by
 have hil:i < ρ.length:=(List.getElem?_eq_some_iff.mp hi).1
 have prm:=owns_takeL hi (l:=.d x) rfl
 have hnd:(ownsL k++owns (ρ.set i (.d x))).Nodup:=prm.nodup_iff.mp E.nd
 obtain ⟨nd1,nd2,nd3⟩:=List.nodup_append.mp hnd
 have hna:∀ a∈ownsL k,a∉owns (ρ.set i (.d x)):=fun a ha z=>nd3 a ha a z rfl
 have hb:∀ b u,H1 b=some u→b∉owns (ρ.set i (.d x))→H' b=some u:=fun b u e hno=>by
  refine E'.sub b u ?_
  unfold butOwn
  rw [if_neg hno]
  exact e
 have hS:∀ a∈ownsL k,∃ o vs,H' a=some (.frz o (.lst vs)):=fun a ha=>by
  obtain ⟨vs,e⟩:=hSa a ha
  obtain ⟨o,eo⟩:=F.2.2 a ha vs e
  exact ⟨o,vs,hb a _ eo (hna a ha)⟩
 obtain ⟨H2,I2,T⟩:=thawAll (ownsL k) nd1 I' hS fun a ha o u e=>by
  have z:=I.base.frzs a o u e
  obtain ⟨vs,q⟩:=hSa a ha
  rw [q] at z; cases z
 have back:∀ a∈ownsL k,H2 a=H a:=fun a ha=>by
  obtain ⟨vs,e⟩:=hSa a ha
  obtain ⟨o,eo⟩:=F.2.2 a ha vs e
  obtain ⟨o',vs',e1,e2⟩:=T.2 a ha
  rw [hb a _ eo (hna a ha)] at e1
  cases e1
  rw [e2,e]
 have P:Pres H H2:=fun b u hp e=>by
  have hno:b∉owns ρ:=fun z=>by
   obtain ⟨ws,hz,mu⟩:=E.at_own z
   rw [hz] at e; cases e; exact mu.no hp
  have hnk:b∉ownsL k:=fun z=>hno (prm.mem_iff.mpr (List.mem_append_left _ z))
  rw [T.1 b hnk]
  exact hb b u (F.1 b u hp e) fun z=>hno (prm.mem_iff.mpr (List.mem_append_right _ z))
 obtain ⟨sl1,sl2⟩:=Paired.unapp hlen E'.sl
 have ndE:=E'.nd
 rw [owns_append] at ndE
 obtain ⟨ne1,ne2,ne3⟩:=List.nodup_append.mp ndE
 have lamS:∀ a∈owns lam,a∉ownsL k∧Pr a=none∧a∉owns (ρ.set i (.d x)):=fun a ha=>by
  obtain ⟨vs,e,mu⟩:=E'.at_own (a:=a) (by rw [owns_append]; exact List.mem_append_left _ ha)
  have h1:a∉ownsL k:=fun z=>by
   obtain ⟨o,us,e1,_⟩:=T.2 _ z
   rw [e1] at e
   cases e
   exact mu
  have h3:a∉owns (ρ.set i (.d x)):=fun z=>ne3 a ha a z rfl
  refine ⟨h1,?_,h3⟩
  have hoff:=E'.off a (by rw [owns_append]; exact List.mem_append_left _ ha)
  unfold butOwn at hoff
  rw [if_neg h3] at hoff
  cases ep:Pr a with
  | none=>rfl
  | some w=>rw [E1.sub a w ep] at hoff; cases hoff
 have slt:Paired (Slot1 X.K H2) σ (ρ.set i .un):=by
  have q:Paired (Slot1 X.K H') σ (ρ.set i .un):=by
   have:=(Paired.set_r (b:=L.un) i sl2 fun _ _=>by unfold Slot1; exact True.intro)
   rwa [List.set_set] at this
  refine slots_thaw T P (ρ0:=ρ) (by simp) (fun j l e=>?_) E.sl q
  by_cases hj:j=i
  ·
   subst hj
   rw [List.getElem?_set_self hil] at e
   cases e
   exact .inl noLr_un
  ·
   have h1:=List.all_eq_true.mp hfl l (List.mem_of_getElem? (i:=j) e)
   rw [List.getElem?_set_ne (Ne.symm hj)] at e
   cases l with
   | un=>exact .inl noLr_un
   | d y=>exact .inr ⟨y,rfl,e⟩
   | own b ys=>exact .inl h1
   | bx b ls=>exact .inl h1
   | dic b ls=>exact .inl h1
 have slr:Paired (Slot1 X.K H2) τ lam:=Paired.impMem sl1 fun l hl s q=>q.thaw T l (List.all_eq_true.mp hr l hl)
 refine ⟨H2,I2,fun b u e=>?_,?_,fun b hbm=>?_,Paired.app slr ?_⟩
 ·
  have hno:b∉owns ρ:=fun z=>by have:=E.off b z; rw [e] at this; cases this
  have hnk:b∉ownsL k:=fun z=>hno (prm.mem_iff.mpr (List.mem_append_left _ z))
  rw [T.1 b hnk]
  refine hb b u ?_ fun z=>hno (prm.mem_iff.mpr (List.mem_append_right _ z))
  rw [F.2.1 b hnk]
  exact E.sub b u e
 ·
  rw [owns_append,List.nodup_append]
  refine ⟨ne1,E.nd,fun c hc d hd z=>?_⟩
  subst z
  obtain ⟨h1,h2,h3⟩:=lamS c hc
  rcases List.mem_append.mp (prm.mem_iff.mp hd) with z | z
  ·
   exact h1 z
  ·
   exact h3 z
 ·
  rw [owns_append] at hbm
  rcases List.mem_append.mp hbm with z | z
  ·
   exact (lamS b z).2.1
  ·
   exact E.off b z
 ·
  obtain ⟨sv,hs,q⟩:=E.slot hi
  have:=Paired.set_r (b:=k) i slt fun s es=>by
   rw [hs] at es
   cases es
   exact q.pres P k back
  rw [List.set_set] at this
  have e2:ρ.set i k=ρ:=by
   refine List.ext_getElem? fun j=>?_
   by_cases hj:j=i
   ·
    subst hj; rw [List.getElem?_set_self hil,hi]
   ·
    rw [List.getElem?_set_ne (Ne.symm hj)]
  rwa [e2] at this
def pkW (o:Option L) (i:Nat) (t:W L) (ρ:Ev) (post:L→Ev→Prop):Prop:=match o with
 | some (.own _ xs)=>flatOwn i ρ=true∧t (ρ.set i (.d (.lst xs))) fun r ρ'=>noLr r=true∧ρ'=ρ.set i (.d (.lst xs))∧post r ρ
 | some (.bx b ls)=>flatOwn i ρ=true∧toDB b ls fun x=>t (ρ.set i (.d x)) fun r ρ'=>noLr r=true∧ρ'=ρ.set i (.d x)∧post r ρ
 | _=>t ρ post
def wPeek (i:Nat) (t:W L):W L:=fun ρ post=>pkW ρ[i]? i t ρ post
theorem pkW_own (a:Addr) (xs:List D) (i:Nat) (t:W L) (ρ:Ev) (post:L→Ev→Prop):pkW (some (.own a xs)) i t ρ post=(flatOwn i ρ=true∧t (ρ.set i (.d (.lst xs))) fun r ρ'=>noLr r=true∧ρ'=ρ.set i (.d (.lst xs))∧post r ρ):=(rfl)
theorem pkW_bx (b:Option Addr) (ls:List L) (i:Nat) (t:W L) (ρ:Ev) (post:L→Ev→Prop):pkW (some (.bx b ls)) i t ρ post=(flatOwn i ρ=true∧toDB b ls fun x=>t (ρ.set i (.d x)) fun r ρ'=>noLr r=true∧ρ'=ρ.set i (.d x)∧post r ρ):=(rfl)
theorem pkW_d (x:D) (i:Nat) (t:W L) (ρ:Ev) (post:L→Ev→Prop):pkW (some (.d x)) i t ρ post=t ρ post:=(rfl)
theorem peek_in {X:Cx} {pins:List (Addr×Obj)} {s:Shared} {σ:St} {H Pr:Hp} {ρ:Ev} {i:Nat} {k:L} {x:D} (I:Inv X pins σ H s) (E:REnv X.K Pr H σ ρ) (hi:ρ[i]?=some k) (hx:eraseL k=some x):∃ H1,Inv X pins σ H1 s∧REnv X.K Pr H1 σ (ρ.set i (.d x))∧Frozen H H1 (ownsL k)∧∀ a∈ownsL k,∃ vs,H a=some (.lst vs):=by
 obtain ⟨sv,hs,sl⟩:=E.slot hi
 obtain ⟨H1,I1,E1,F⟩:=frzL k I (E.outL hi hs) hx
 have hil:i < ρ.length:=(List.getElem?_eq_some_iff.mp hi).1
 have E2:=E1.back (i:=i) (by rw [List.getElem?_set_self hil]) hs
 rw [List.set_set] at E2
 exact ⟨H1,I1,E2,F,sl.lsts k hx⟩
theorem pl_peek {X:Cx} {e:Expr} (i:Nat) {t:W L} (h:PL X e t):PL X e (wPeek i t):=by
 intro pins s σ H Pr ρ post I E hw
 have go:∀ (k:L) (x:D),ρ[i]?=some k→eraseL k=some x→flatOwn i ρ=true→(t (ρ.set i (.d x)) fun r ρ'=>noLr r=true∧ρ'=ρ.set i (.d x)∧post r ρ)→wpAny (model X.prog X.w) X.A (eval e X.env) (EL X pins σ Pr post) X.xe s:=by
  intro k x hi hx hfl hw
  obtain ⟨H1,I1,E1,F,Sa⟩:=peek_in I E hi hx
  refine thn (h pins s σ _ _ _ _ I1 E1.wide hw) fun u s1 ⟨v,H',r,ρ',I',rv,E',hr,eρ,hp⟩=>?_
  subst eρ
  obtain ⟨H2,I2,E2⟩:=peek_core (τ:=[some v]) (lam:=[r]) (v:=some v) I E hi Sa F hfl I' E1 E' rfl (by simpa using hr)
  exact ⟨v,H2,r,ρ,I2,rv,E2,hp⟩
 unfold wPeek pkW at hw
 split at hw
 ·
  rename_i a xs hi
  exact go _ _ hi rfl hw.1 hw.2
 ·
  rename_i b ls hi
  obtain ⟨x,hx,hw'⟩:=toDB_is hw.2
  exact go _ _ hi hx hw.1 hw'
 ·
  exact h pins s σ H Pr ρ post I E hw
def pkB (o:Option L) (i:Nat) (t:W Bool) (ρ:Ev) (post:Bool→Ev→Prop):Prop:=match o with
 | some (.own _ xs)=>flatOwn i ρ=true∧t (ρ.set i (.d (.lst xs))) fun r ρ'=>ρ'=ρ.set i (.d (.lst xs))∧post r ρ
 | some (.bx b ls)=>flatOwn i ρ=true∧toDB b ls fun x=>t (ρ.set i (.d x)) fun r ρ'=>ρ'=ρ.set i (.d x)∧post r ρ
 | _=>t ρ post
def wPeekB (i:Nat) (t:W Bool):W Bool:=fun ρ post=>pkB ρ[i]? i t ρ post
theorem pkB_own (a:Addr) (xs:List D) (i:Nat) (t:W Bool) (ρ:Ev) (post:Bool→Ev→Prop):pkB (some (.own a xs)) i t ρ post=(flatOwn i ρ=true∧t (ρ.set i (.d (.lst xs))) fun r ρ'=>ρ'=ρ.set i (.d (.lst xs))∧post r ρ):=(rfl)
theorem pkB_bx (b:Option Addr) (ls:List L) (i:Nat) (t:W Bool) (ρ:Ev) (post:Bool→Ev→Prop):pkB (some (.bx b ls)) i t ρ post=(flatOwn i ρ=true∧toDB b ls fun x=>t (ρ.set i (.d x)) fun r ρ'=>ρ'=ρ.set i (.d x)∧post r ρ):=(rfl)
theorem pkB_d (x:D) (i:Nat) (t:W Bool) (ρ:Ev) (post:Bool→Ev→Prop):pkB (some (.d x)) i t ρ post=t ρ post:=(rfl)
theorem pb_peek {X:Cx} {e:Expr} (i:Nat) {t:W Bool} (h:PB X e t):PB X e (wPeekB i t):=by
 intro pins s σ H Pr ρ post I E hw
 have go:∀ (k:L) (x:D),ρ[i]?=some k→eraseL k=some x→flatOwn i ρ=true→(t (ρ.set i (.d x)) fun r ρ'=>ρ'=ρ.set i (.d x)∧post r ρ)→wpAny (model X.prog X.w) X.A (isTrue e X.env (eval e X.env)) (EB X pins σ Pr post) X.xe s:=by
  intro k x hi hx hfl hw
  obtain ⟨H1,I1,E1,F,Sa⟩:=peek_in I E hi hx
  refine thn (h pins s σ _ _ _ _ I1 E1.wide hw) fun u s1 ⟨H',ρ',I',E',eρ,hp⟩=>?_
  subst eρ
  obtain ⟨H2,I2,E2⟩:=peek_core (τ:=[]) (lam:=[]) (v:=none) I E hi Sa F hfl I' E1 E' rfl rfl
  exact ⟨H2,ρ,I2,E2,hp⟩
 unfold wPeekB pkB at hw
 split at hw
 ·
  rename_i a xs hi
  exact go _ _ hi rfl hw.1 hw.2
 ·
  rename_i b ls hi
  obtain ⟨x,hx,hw'⟩:=toDB_is hw.2
  exact go _ _ hi hx hw.1 hw'
 ·
  exact h pins s σ H Pr ρ post I E hw
end L2
namespace L2
open PySem PySem.Spec PyProof.Rows
variable {X:Cx}
end L2
namespace L2
open PySem PySem.Spec PyProof.Rows
variable {X:Cx}
end L2
namespace L2
open PySem PySem.Spec PyProof.Rows
variable {X:Cx}
end L2
namespace L2
open PySem PySem.Spec PyProof.Rows
section
variable {X:Cx} {e a b c:Expr} {es rest:List Expr} {pos p p2 apos cpos:Pos} {ta tb tc te:W L} {x y:Str}
end
end L2
set_option exponentiation.threshold 2000
namespace L2
open PySem PySem.Spec PyProof.Rows
section
variable {X:Cx} {e a b c tg:Expr} {es rest:List Expr} {pos p p2 apos cpos:Pos} {ta tb tc te:W L} {x y:Str}
mutual
def shortD:D→Bool
 | .int i=>decide (i.natAbs < 2 ^ 1900)
 | .tup xs=>shortDs xs
 | .lst xs=>shortDs xs
 | _=>true
def shortDs:List D→Bool
 | []=>true
 | x::xs=>shortD x && shortDs xs
end
theorem two1900:(2:Nat) ^ 1900 < 10 ^ 600:=by decide +kernel
theorem int_short {i:Int} (h:i.natAbs < 2 ^ 1900):(PyData.shown (.int i)).length≤601:=by
 have e:=PySem.int_text_length_le10 (k:=600) (by decide) (Nat.lt_trans h two1900)
 show (Str.ofString (toString i)).length≤601
 rw [PySem.ofString_length]; exact e
mutual
theorem short_is:∀ d:D,shortD d=true→(toP d).intsShort 601=true∧(toP d).showable=true
 | .non,_=>⟨rfl,rfl⟩
 | .bl _,_=>⟨rfl,rfl⟩
 | .str _,_=>⟨rfl,rfl⟩
 | .dct _,_=>⟨rfl,rfl⟩
 | .exc _ _ _,_=>⟨rfl,rfl⟩
 | .int i,h=>by
  have h':i.natAbs < 2 ^ 1900:=by simpa only [shortD,decide_eq_true_eq] using h
  refine ⟨by simp only [toP,PyData.intsShort,decide_eq_true_eq]; exact int_short h',?_⟩
  simp only [toP,PyData.showable,decide_eq_true_eq]
  by_cases h0:i.natAbs=0
  ·
   rw [h0]; decide
  ·
   exact (Nat.log2_lt h0).mpr (Nat.lt_of_lt_of_le h' (Nat.pow_le_pow_right (by decide) (by decide)))
 | .tup xs,h=>by
  obtain ⟨h1,h2⟩:=short_iss xs (by simpa only [shortD] using h)
  exact ⟨by simpa only [toP,PyData.intsShort] using h1,by simpa only [toP,PyData.showable] using h2⟩
 | .lst xs,h=>by
  obtain ⟨h1,h2⟩:=short_iss xs (by simpa only [shortD] using h)
  exact ⟨by simpa only [toP,PyData.intsShort] using h1,by simpa only [toP,PyData.showable] using h2⟩
theorem short_iss:∀ ds:List D,shortDs ds=true→PyData.intsShortAll 601 (toPs ds)=true∧PyData.showableAll (toPs ds)=true
 | [],_=>⟨rfl,rfl⟩
 | d::ds,h=>by
  simp only [shortDs,Bool.and_eq_true] at h
  obtain ⟨h1,h2⟩:=short_is d h.1
  obtain ⟨h3,h4⟩:=short_iss ds h.2
  exact ⟨by simp only [toPs,PyData.intsShortAll,h1,h3,Bool.and_self],by simp only [toPs,PyData.showableAll,h2,h4,Bool.and_self]⟩
end
structure ReprOk (d:D):Prop where
 ok:okD 40 d=true
 sh:shortD d=true
 wt:(toP d).weight≤20000
theorem ReprOk.len {d:D} (h:ReprOk d):(toP d).shown.length≤sizeLine:=by
 have h1:=PyData.shown_le 601 (by decide) (toP d) (PyData.leavesShort_of_canLay0 601 _ (okD_lay 40 d h.ok).1 (short_is d h.sh).1)
 have h2:=h.wt
 have e:sizeLine=16777216:=by decide
 rw [e]
 omega
def wRep (ta tb:W L):W L:=fun ρ post=>ta ρ fun r ρ1=>match r with
 | .own _ xs=>tb ρ1 fun r2 ρ2=>toInt r2 fun j=>(0≤j∧j≤100000)∧xs.length*j.toNat≤sizeLine∧∀ p,post (.own p (List.replicate j.toNat xs).flatten) ρ2
 | _=>False
def fzW (f:Fl) (o:Option L) (j:Nat) (ρ1:Ev) (post:Fl→Ev→Prop):Prop:=match f with
 | .nx=>(match o with
  | some (.own _ xs)=>post .nx (ρ1.set j (.d (.lst xs)))
  | _=>post .nx ρ1)
 | f=>post f ρ1
def wFzS (j:Nat) (t:W Fl):W Fl:=fun ρ post=>t ρ fun f ρ1=>fzW f ρ1[j]? j ρ1 post
theorem fzW_own (a:Addr) (xs:List D) (j:Nat) (ρ1:Ev) (post:Fl→Ev→Prop):fzW .nx (some (.own a xs)) j ρ1 post=post .nx (ρ1.set j (.d (.lst xs))):=(rfl)
theorem fzW_d (x:D) (j:Nat) (ρ1:Ev) (post:Fl→Ev→Prop):fzW .nx (some (.d x)) j ρ1 post=post .nx ρ1:=(rfl)
theorem pm_fz {st:Stmt} {t:W Fl} (j:Nat) (h:PM X st t):PM X st (wFzS j t):=by
 intro pins s σ H Pr ρ post I E ht
 refine thn (h pins s σ H Pr ρ _ I E ht) fun f s1 q=>?_
 cases f with
 | ret v=>exact q
 | brk=>exact q
 | cont=>exact q
 | next =>
  obtain ⟨σ',H',ρ',I',E',p⟩:=q
  unfold fzW at p
  dsimp only at p
  split at p
  rotate_left
  ·
   exact ⟨σ',H',ρ',I',E',p⟩
  rename_i a xs hj
  obtain ⟨hs,vs,ha,rs⟩:=E'.ownAt hj
  obtain ⟨o,I2⟩:=I'.freezeL ha
  have E2:=(E'.out hj).freeze ha o
  have hi:j < ρ'.length:=(List.getElem?_eq_some_iff.mp hj).1
  have E3:=E2.back (i:=j) (by simp [hi]) hs
  rw [List.set_set] at E3
  exact ⟨σ',_,_,I2,E3,p⟩
end
end L2
namespace L2
open PySem PySem.Spec PyProof.Rows
theorem REnv.closeT {K:PySem.W.Frag} {Pr H:Hp} {σ:St} {ρ:Ev} {a:Addr} {vs:List V} {ls:List L} (hl:vs.length=ls.length) (h:SqT K H a vs) (E:REnv K Pr H (vs.map some++σ) (ls++ρ)):REnv K Pr H (some (.ref a)::σ) (.bx none ls::ρ):=by
 obtain ⟨s1,s2⟩:=Paired.unapp (by simp [hl]) E.sl
 have ow:owns (.bx none ls::ρ)=owns (ls++ρ):=by
  rw [owns_cons,owns_append]
  simp only [ownsL,Option.toList,List.nil_append,ownsLs_eq]
 refine ⟨E.sub,by rw [ow]; exact E.nd,fun b hb=>E.off b (by rw [← ow]; exact hb),.cons ?_ s2⟩
 unfold Slot1
 exact ⟨a,vs,rfl,h,slots_paired.mpr s1⟩
theorem REnv.closeO {K:PySem.W.Frag} {Pr H:Hp} {σ:St} {ρ:Ev} {a:Addr} {vs:List V} {ls:List L} (hl:vs.length=ls.length) (h:H a=some (.lst vs)) (hn:a∉owns (ls++ρ)) (hp:Pr a=none) (E:REnv K Pr H (vs.map some++σ) (ls++ρ)):REnv K Pr H (some (.ref a)::σ) (.bx (some a) ls::ρ):=by
 obtain ⟨s1,s2⟩:=Paired.unapp (by simp [hl]) E.sl
 have ow:owns (.bx (some a) ls::ρ)=a::owns (ls++ρ):=by
  rw [owns_cons,owns_append]
  simp only [ownsL,Option.toList,List.cons_append,List.nil_append,ownsLs_eq]
 refine ⟨E.sub,by rw [ow]; exact List.nodup_cons.mpr ⟨hn,E.nd⟩,fun b hb=>?_,.cons ?_ s2⟩
 ·
  rw [ow] at hb
  rcases List.mem_cons.mp hb with z | z
  ·
   rw [z]; exact hp
  ·
   exact E.off b z
 ·
  unfold Slot1
  exact ⟨rfl,vs,h,slots_paired.mpr s1⟩
section
variable {X:Cx} {e a b c tg:Expr} {es rest:List Expr} {pos p p2 apos cpos:Pos} {ta tb tc te:W L} {x y:Str}
def tgNamesL:List Nat→List L→Ev→(Ev→Prop)→Prop
 | [],[],ρ,k=>k ρ
 | i::is,l::ls,ρ,k=>tgNamesL is ls (ρ.set i l) k
 | _,_,_,_=>False
def wAsgB (is:List Nat) (te:W L):W Fl:=fun ρ post=>te ρ fun r ρ1=>match r with
 | .bx none ls=>tgNamesL is ls ρ1 fun ρ2=>post .nx ρ2
 | _=>False
theorem REnv.updIn {K:PySem.W.Frag} {Pr H:Hp} {σ:St} {ρ:Ev} {i j:Nat} {q:Option Addr} {ls:List L} {l:Addr} {xs ys:List D} {vs:List V} (E:REnv K Pr H σ ρ) (hi:ρ[i]?=some (.bx q ls)) (hj:ls[j]?=some (.own l xs)) (r:Reps K H vs ys) :
  REnv K Pr (upd H l (.lst vs)) σ (ρ.set i (.bx q (ls.set j (.own l ys)))):=by
 obtain ⟨sv,hs,_⟩:=E.slot hi
 have hil:i < ρ.length:=(List.getElem?_eq_some_iff.mp hi).1
 have hjl:j < ls.length:=(List.getElem?_eq_some_iff.mp hj).1
 have E1:=E.outL hi hs
 have fin:∀ {H':Hp},REnv K Pr H' (sv::σ) (.bx q (ls.set j (.own l ys))::ρ.set i .un)→REnv K Pr H' σ (ρ.set i (.bx q (ls.set j (.own l ys)))):=fun E'=>by
  have:=E'.back (i:=i) (by simp [hil]) hs
  rwa [List.set_set] at this
 cases q with
 | none =>
  obtain ⟨a,us,rfl,ha,hl,E2⟩:=E1.openT
  have E3:=E2.updOwn (i:=j) (l:=l) (xs:=xs) (ys:=ys) (vs:=vs) (by rw [List.getElem?_append_left hjl]; exact hj) r
  rw [List.set_append_left _ _ hjl] at E3
  obtain ⟨ws,hlw,mu⟩:=E2.at_own (a:=l) (own_mem (xs:=xs) (List.mem_of_getElem? (i:=j) (by rw [List.getElem?_append_left hjl]; exact hj)))
  refine fin (E3.closeT (by simpa using hl) (ha.pres fun b u pu eb=>?_))
  rw [upd_ne]; exact eb
  rintro rfl
  rw [hlw] at eb; cases eb; exact mu.no pu
 | some a =>
  obtain ⟨us,rfl,ha,hl,hn,hp,E2⟩:=E1.openO
  have hlm:l∈owns (ls++ρ.set i .un):=own_mem (xs:=xs) (List.mem_of_getElem? (i:=j) (by rw [List.getElem?_append_left hjl]; exact hj))
  have E3:=E2.updOwn (i:=j) (l:=l) (xs:=xs) (ys:=ys) (vs:=vs) (by rw [List.getElem?_append_left hjl]; exact hj) r
  have ow:=owns_set_own (ρ:=ls++ρ.set i .un) (i:=j) (a:=l) (xs:=xs) (ys:=ys) (by rw [List.getElem?_append_left hjl]; exact hj)
  rw [List.set_append_left _ _ hjl] at E3 ow
  have hla:l≠a:=fun z=>hn (by rw [← z]; exact hlm)
  refine fin (E3.closeO (by simpa using hl) ?_ (by rw [ow]; exact hn) hp)
  rw [upd_ne (Ne.symm hla)]
  exact ha
theorem REnv.inAt {K:PySem.W.Frag} {Pr H:Hp} {σ:St} {ρ:Ev} {i j:Nat} {q:Option Addr} {ls:List L} {l:Addr} {xs:List D} (E:REnv K Pr H σ ρ) (hi:ρ[i]?=some (.bx q ls)) (hj:ls[j]?=some (.own l xs)) :
  ∃ a us,σ[i]?=some (some (.ref a))∧(SqL K H a us∨SqT K H a us)∧us.length=ls.length∧us[j]?=some (.ref l)∧∃ vs,H l=some (.lst vs)∧Reps K H vs xs:=by
 obtain ⟨sv,hs,sl⟩:=E.slot hi
 have key:∀ (us:List V),Slots K H us ls→us[j]?=some (.ref l)∧∃ vs,H l=some (.lst vs)∧Reps K H vs xs:=fun us h=>by
  obtain ⟨s',e,z⟩:=Paired.get2 (slots_paired.mp h) hj
  unfold Slot1 at z
  obtain ⟨rfl,vs,hl,rs⟩:=z
  rw [List.getElem?_map] at e
  cases eu:us[j]? with
  | none=>rw [eu] at e; cases e
  | some u=>rw [eu] at e; cases e; exact ⟨rfl,vs,hl,rs⟩
 cases q with
 | none =>
  unfold Slot1 at sl
  obtain ⟨a,us,rfl,ha,h⟩:=sl
  exact ⟨a,us,hs,.inr ha,h.len,key us h⟩
 | some a =>
  unfold Slot1 at sl
  obtain ⟨rfl,us,ha,h⟩:=sl
  exact ⟨a,us,hs,.inl (SqL.of ha),h.len,key us h⟩
def inV' (i:Nat) (k:Int) (ρ:Ev) (K:Option Addr→List L→Nat→Addr→List D→Prop):Prop:=match ρ[i]? with
 | some (.bx q ls)=>∃ j,ixN ls.length k=some j∧∃ l xs,ls[j]?=some (.own l xs)∧K q ls j l xs
 | _=>False
theorem inV_is {i:Nat} {k:Int} {ρ:Ev} {K:Option Addr→List L→Nat→Addr→List D→Prop} (h:inV' i k ρ K):∃ q ls j l xs,ρ[i]?=some (.bx q ls)∧ixN ls.length k=some j∧ls[j]?=some (.own l xs)∧K q ls j l xs:=by
 unfold inV' at h
 split at h
 ·
  rename_i q ls hi
  obtain ⟨j,hj,l,xs,hl,hk⟩:=h
  exact ⟨q,ls,j,l,xs,hi,hj,hl,hk⟩
 ·
  exact h.elim
theorem ix_both:IxR X (fun x y H Q=>∃ p vs i w,x=.ref p∧y=.int i∧(SqL X.K H p vs∨SqT X.K H p vs)∧atI vs i=some w∧Q w H):=by
 intro a b pins s σ H x y v u Q I rx ry h hp
 obtain ⟨p,vs,i,w,e1,e2,hq,hw,q⟩:=h
 rcases hq with hq | hq
 ·
  exact ix_list a b pins s σ H x y v u Q I rx ry ⟨p,vs,i,w,e1,e2,hq,hw,q⟩ hp
 ·
  exact ix_tup a b pins s σ H x y v u Q I rx ry ⟨p,vs,i,w,e1,e2,hq,hw,q⟩ hp
def isBx (i:Nat) (ρ:Ev):Prop:=match ρ[i]? with
 | some (.bx _ _)=>True
 | _=>False
theorem isBx_is {i:Nat} {ρ:Ev} (h:isBx i ρ):∃ q ls,ρ[i]?=some (.bx q ls):=by
 unfold isBx at h
 split at h
 ·
  rename_i q ls e; exact ⟨q,ls,e⟩
 ·
  exact h.elim
def wAppIn (i:Nat) (tk te:W L):W L:=fun ρ post=>isBx i ρ∧tk ρ fun r ρ1=>toInt r fun k=>ρ1=ρ∧(inV' i k ρ fun _ _ _ _ _=>True)∧te ρ fun r ρ2=>toD r fun y=>ρ2=ρ∧inV' i k ρ fun q ls j l xs=>xs.length < sizeLine∧post (.d .non) (ρ.set i (.bx q (ls.set j (.own l (xs++[y])))))
theorem at_ix {α:Type} {us:List α} {n j:Nat} {k:Int} {w:α} (hn:us.length=n) (hj:ixN n k=some j) (hw:us[j]?=some w):atI us k=some w:=by
 unfold atI
 rw [hn,hj]
 exact hw
theorem pl_appIn (i:Nat) (hb:PL X b tb) (he:PL X e te) (hp:PlainIx b) (hN:X.N[i]?=some x:=by rfl) (hv:Vis X.env.scope x:=by first | exact Or.inl rfl | exact Or.inr (Or.inl rfl) | exact Or.inr (Or.inr rfl)) (hd:(x == ("__debug__" : Str))=false:=by decide)
  (hcd:(x == ("__classdict__" : Str))=false:=by decide) (hs1:starEach [e] X.env=[(false,eval e X.env)]:=by rfl) (hbase:attributeBase (.Subscript (.Name x p) b p2) "append" X.env (eval (.Subscript (.Name x p) b p2) X.env)=eval (.Subscript (.Name x p) b p2) X.env:=by rfl)
  (hfew:((backTo cpos (starEach [e] X.env)).all (fun x=>!x.1) && (backToKw cpos (keywordEach [] X.env)).all (fun x=>x.1.isSome)
   && decide (([e]).length+([]:List Keyword).length+(if ([]:List Keyword).isEmpty then 0 else 1) < 30))=true:=by rfl)
  (hline:(apos.endLine == cpos.line)=true:=by rfl) (hplain:(backTo cpos (starEach ([]:List Expr) X.env)).any (·.1)=false:=by rfl) :
  PL X (.Call (.Attribute (.Subscript (.Name x p) b p2) "append" apos) [e] [] cpos) (wAppIn i tb te):=by
 refine PL.of (pe_bm PySem.F.plainAttrs_list PySem.F.slot_list_append PySem.F.type_list_append mt_append (pe_ix ix_both (pe_var hN hv hd hcd) hb.pe hp) (pa_cons (pl_frz he).pe pa_nil hs1) (hbase:=hbase) (hfew:=hfew) (hline:=hline) (hs:=hs1) (hplain:=hplain)) fun σ H Pr ρ post E h=>?_
 obtain ⟨hbx,h⟩:=h
 obtain ⟨q,ls,hi⟩:=isBx_is hbx
 obtain ⟨a,hσ⟩:∃ a,σ[i]?=some (some (.ref a)):=by
  obtain ⟨sv,hs,sl⟩:=E.slot hi
  cases q with
  | none=>unfold Slot1 at sl; obtain ⟨a,_,rfl,_⟩:=sl; exact ⟨a,hs⟩
  | some a=>unfold Slot1 at sl; obtain ⟨rfl,_⟩:=sl; exact ⟨a,hs⟩
 refine ⟨.ref a,hσ,Pr,ρ,_,E,h,fun v H2 r ρ1 E2 pp=>?_⟩
 obtain ⟨k,rfl,rfl,hin,pp⟩:=toInt_is pp
 obtain ⟨_,e1,p1⟩:=E2.head_d
 cases e1
 cases p1
 obtain ⟨q',ls',j,l,xs,hi',hj,hl,_⟩:=inV_is hin
 rw [hi] at hi'
 cases hi'
 obtain ⟨a',us,hσ',hsq,hul,huj,vs,hlv,rs⟩:=E2.tail.inAt hi hl
 rw [hσ] at hσ'
 cases hσ'
 refine ⟨a,us,k,.ref l,rfl,rfl,hsq,at_ix hul hj huj,.inl ⟨rfl,vs,SqL.of hlv⟩,Pr,ρ1,fun r ρ2=>match r with
  | .d y=>ρ2=ρ1∧inV' i k ρ1 fun q ls j l xs=>xs.length < sizeLine∧post (.d .non) (ρ1.set i (.bx q (ls.set j (.own l (xs++[y])))))
  | _=>False,E2.tail,pp,fun v H3 r ρ2 E3 pq=>?_⟩
 cases r with
 | d y =>
  obtain ⟨e2,pq⟩:=pq
  subst e2
  obtain ⟨q',ls',j',l',xs',hi',hj',hl',hlen,pq⟩:=inV_is pq
  rw [hi] at hi'
  cases hi'
  rw [hj] at hj'
  cases hj'
  rw [hl] at hl'
  cases hl'
  obtain ⟨_,_,_,_,_,_,vs3,hlv3,rs3⟩:=E3.tail.inAt hi hl
  obtain ⟨_,e3,p3⟩:=E3.head_d
  cases e3
  exact ⟨l,vs3,v,rfl,rfl,hlv3,by rw [rs3.length]; exact hlen,_,_,(E3.tail.updIn hi hl (rs3.append (.cons p3 .nil))).cons_d .non,pq⟩
 | _=>exact pq.elim
end
end L2
namespace L2
open PySem PySem.Spec PyProof.Rows
section
variable {X:Cx} {pins:List (Addr×Obj)} {σ:St} {H Pr:Hp} {s:Shared} {ρ:Ev} {pos p1 p2:Pos}
end
end L2
namespace L2
open PySem PySem.Spec PyProof.Rows
structure FX (K:PySem.W.Frag) (mg:Str→Option Value) (g:Str) (st:Stmt) (a:Addr) (fd:FuncData) (P:List Str):Prop where
 f:Fun K g g st a fd
 b:Binds K fd P []
 m:mg g=some (.ref a)
abbrev fdM (g:Str) (st:Stmt) (md:Value) (c:Nat):FuncData:=PySem.W.fnOf g g (defArgs st) (defBody st) (defScope st) .none .none .none md none (.ref c) .none
theorem FX.mk' {K:PySem.W.Frag} {mg:Str→Option Value} {h:Heap} (X:K.In h) (G:h.Ns mainGlobals mg) {g:Str} {st:Stmt} {a:Addr} {c:Nat} {md:Value} {P:List Str} (e1:PySem.W.nsIn K mainGlobals g=some (some (.ref a)))
  (e2:K.lookup a=some ⟨.type "function",none,.func (fdM g st md c),#[]⟩) (e3:PySem.W.codeIn K (.ref c) g=true) (e4:PySem.W.keepIn K (.ref a)=true)
  (e5:∀ (kV doc pm:Value) (an:Option Addr) (cdv ct:Value) (us:List Value),us.length=P.length→bindArgs (PySem.W.fnOf g g (defArgs st) (defBody st) (defScope st) .none kV doc pm an cdv ct) ⟨us,[]⟩=pure (P.zip us)):FX K mg g st a (fdM g st md c) P :=
 ⟨fun_mk e2 e3 e4,(fun_mk e2 e3 e4).binds e5,PySem.W.mg_of X G e1⟩
section
variable {X:Cx} {k k' n:Nat} {f:Addr} {fd:FuncData} {ps:List Str} {fs:FS} {g:Str} {st:Stmt} {e:Expr} {es:List Expr} {bs:List (Option Nat)} {t:W (List L)} {p pos:Pos}
theorem pl_cx (F:FnOk X.prog X.w X.K X.mg X.base CX0 k f fd ps (spF X.K n fs)) (T:FX X.K X.mg g st f fd ps) (hr:Room k' X.A) (ha:PAL X (e::es) bs t) (hk:k≤k':=by decide) (hg:Gl X g:=by rfl) (hn:bs.length=n:=by rfl) (hdb:(g == ("__debug__" : Str))=false:=by decide) (he:starEach (e::es) X.env=(false,eval e X.env)::starEach es X.env:=by rfl) (hpl:(backTo pos (starEach es X.env)).any (·.1)=false:=by rfl) :
  PL X (.Call (.Name g p) (e::es) [] pos) (wCall fs t):=pl_call F (hr.mono hk) hg T.m T.f.kp T.b pass0 ha hn hdb he hpl
theorem pl_cxB (F:FnOk X.prog X.w X.K X.mg X.base CX0 k f fd ps (spF X.K n fs)) (T:FX X.K X.mg g st f fd ps) (hr:Room k' X.A) (j i:Nat) (ha:PAL X (e::es) bs t) (hk:k≤k':=by decide) (hg:Gl X g:=by rfl) (hj:bs[j]?=some (some i):=by rfl) (hn:bs.length=n:=by rfl) (hdb:(g == ("__debug__" : Str))=false:=by decide) (he:starEach (e::es) X.env=(false,eval e X.env)::starEach es X.env:=by rfl) (hpl:(backTo pos (starEach es X.env)).any (·.1)=false:=by rfl) :
  PL X (.Call (.Name g p) (e::es) [] pos) (wCallB fs j i t):=pl_callB F (hr.mono hk) hg T.m T.f.kp T.b pass0 j i ha hj hn hdb he hpl
end
end L2
namespace L2
open PySem PySem.Spec PyProof.Rows
section
variable {X:Cx}
end
end L2
namespace L2
open PySem PySem.Spec PyProof.Rows
mutual
def depD:D→Nat
 | .tup xs=>depDs xs+1
 | .lst xs=>depDs xs+1
 | _=>0
def depDs:List D→Nat
 | []=>0
 | x::xs=>max (depD x) (depDs xs)
end
section
variable {X:Cx} {a:Expr} {pos p:Pos} {ta:W L}
end
end L2
namespace L2
open PySem PySem.Spec PyProof.Rows PySem.Builtin.Str
inductive Sk where
 | l | t
section
variable {prog:Program} {w:World} {A:Around} {E:Value→Shared→Prop} {s:Shared}
end
abbrev Zi:=Sk×Addr×Addr
def Zi.ofs (js:List Zi):List Addr:=js.map (·.2.1)
def ZKeep (z O:Addr) (js:List Zi) (h h':Heap):Prop:=∀ c o,c∉z::O::Zi.ofs js→h.get? c=some o→h'.get? c=some o
section
variable {prog:Program} {w:World} {A:Around} {E:Value→Shared→Prop} {s:Shared} {z I O:Addr} {js:List Zi} {i:Nat}
end
end L2
namespace L2
open PySem PySem.Spec PyProof.Rows PySem.Builtin.Str
def Sk.nm:Sk→String
 | .l=>"list_iterator"
 | .t=>"tuple_iterator"
section
variable {prog:Program} {w:World} {A:Around} {E:Value→Shared→Prop} {s:Shared}
end
end L2
namespace L2
open PySem PySem.Spec PyProof.Rows PySem.Builtin.Str
def SqK (K:PySem.W.Frag) (H:Hp):Sk→Addr→List V→Prop
 | .l,a,xs=>SqL K H a xs
 | .t,a,xs=>SqT K H a xs
section
variable {X:Cx} {pins:List (Addr×Obj)} {σ:St} {H:Hp} {s:Shared}
end
def SqF (K:PySem.W.Frag) (H:Hp):Sk→Addr→List V→Prop
 | .l,a,xs=>SqZ K H a xs
 | .t,a,xs=>SqT K H a xs
theorem SqF.pres {K:PySem.W.Frag} {H H':Hp} {k:Sk} {a:Addr} {xs:List V} (p:Pres H H') (h:SqF K H k a xs):SqK K H' k a xs:=by
 cases k with
 | l=>exact (SqZ.pres p h).l
 | t=>exact SqT.pres p h
section
variable {prog:Program} {w:World} {A:Around} {E:Value→Shared→Prop} {s:Shared}
end
section
variable {X:Cx} {a b:Expr} {es:List Expr} {pos p apos:Pos}
end
end L2
namespace L2
open PySem PySem.Spec PyProof.Rows PySem.Builtin.Str
section
variable {prog:Program} {w:World} {A:Around} {E:Value→Shared→Prop} {s:Shared}
end
section
variable {X:Cx} {a b c:Expr} {es:List Expr} {pos p apos:Pos}
end
end L2
namespace L2
open PySem PySem.Spec PyProof.Rows PySem.Builtin.Str
section
variable {prog:Program} {w:World} {A:Around} {E:Value→Shared→Prop} {s:Shared} {z I O:Addr} {js:List Zi} {i:Nat}
end
end L2
namespace L2
open PySem PySem.Spec PyProof.Rows PySem.Builtin.Str
section
variable {prog:Program} {w:World} {A:Around} {s:Shared} {R:Result→Shared→Prop} {z I O S:Addr} {js:List Zi}
theorem ZKeep.mono {h h':Heap} (k:ZKeep z O js h h') {c:Addr} {o:Obj} (hc:c∉z::O::Zi.ofs js) (e:h.get? c=some o):h'.get? c=some o:=k c o hc e
end
section
variable {prog:Program} {w:World} {A:Around} {E:Value→Shared→Prop} {s:Shared} {z I O:Addr} {js:List Zi}
end
end L2
namespace L2
open PySem PySem.Spec PyProof.Rows PySem.Builtin.Str
section
variable {K:PySem.W.Frag} {Pr H H':Hp} {σ:St} {ρ:Ev}
end
section
variable {X:Cx} {pins:List (Addr×Obj)} {σ:St} {H:Hp} {s:Shared}
end
end L2
namespace L2
open PySem PySem.Spec PyProof.Rows PySem.Builtin.Str
section
variable {X:Cx} {a b:Expr} {es:List Expr} {pos p pos0 p0:Pos}
end
end L2
namespace L2
open PySem PySem.Spec PyProof.Rows PySem.Builtin.Str
section
variable {prog:Program} {w:World} {A:Around} {E:Value→Shared→Prop} {s:Shared}
theorem draw_l {j q:Addr} {ys:Array Value} (ne:q≠j):∀ (n i:Nat) (s:Shared) (Q:List Value→Shared→Prop),s.heap.IsListIter j q i→s.heap.IsList q ys→i+n≤ys.size →
  (∀ h',h'.IsListIter j q (i+n)→Heap.SameBut j s.heap h'→Q ((ys.toList.drop i).take n) { s with heap:=h' })→wpAny (model prog w) A (draw (.ref j) n) Q E s
 | 0,i,s,Q,hj,_,_,k=>by
  show wpAny _ _ (pure ([]:List Value)) Q E s
  exact wpAny_pure (by simpa using k s.heap hj (Heap.SameBut.refl ..))
 | n+1,i,s,Q,hj,hq,hle,k=>by
  have lt:i < ys.size:=by omega
  show wpAny _ _ (pyNext (.ref j) >>= _) Q E s
  refine wpAny_bind (wpAny_pyNext_list_item hj hq (x:=ys[i]) (by simp [lt]) fun g1 j1 k1=>?_)
  refine wpAny_bind (wpAny_holding (draw_l ne n (i+1) _ _ j1 (hq.extBut k1.extBut ne) (by omega) fun g2 j2 k2=>wpAny_pure ?_))
  have hd:ys.toList.drop i=ys[i]::ys.toList.drop (i+1):=by simp [List.drop_eq_getElem_cons,lt]
  have z:=k g2 (by rw [show i+(n+1)=i+1+n by omega]; exact j2) (k1.trans k2)
  rw [hd,List.take_succ_cons] at z
  exact z
theorem unpackL {q:Addr} {ys:Array Value} {Q:List Value→Shared→Prop} (h0:A.handled=none) (hq:s.heap.IsList q ys) (k:∀ h',Heap.ExtBut s.heap.objs.size s.heap h'→Q ys.toList { s with heap:=h' }):wpAny (model prog w) A (unpackItems (.ref q) ys.size none) Q E s:=by
 have lt:q≠s.heap.objs.size:=by obtain ⟨o,e,_⟩:=hq; exact Nat.ne_of_lt (Heap.lt_size e)
 unfold unpackItems
 refine wpAny_bind ?_
 unfold notIterableAtAll
 refine wpAny_bind (wpAny_specialOf hq.typeIs slot_list_iter.lookup (wpAny_pure ?_))
 simp only [Bool.false_eq_true,if_false]
 refine wpAny_bind (wpAny_holding (wpAny_pyIter_list hq ?_))
 refine wpAny_bind (wpAny_holding (draw_l lt ys.size 0 _ _ ⟨_,Heap.get?_push_size _ rfl,rfl,rfl⟩ (hq.push _) (by omega) fun g1 j1 k1=>?_))
 have all:List.take ys.size (List.drop 0 ys.toList)=ys.toList:=by rw [List.drop_zero]; exact List.take_of_length_le (by simp)
 rw [all,if_neg (by simp)]
 refine wpAny_bind (wpAny_holding (wpAny_pyNext_list_end h0 j1 ((hq.push _).extBut k1.extBut lt) (by simp) fun g2 k2=>?_))
 simp only [Option.isSome_none,Bool.false_eq_true,if_false]
 exact wpAny_pure (k g2 fun b o hb e=>k2 b o hb (k1.extBut b o hb (Heap.get?_push_of_some _ e)))
end
section
variable {X:Cx} {es:List Expr} {pos:Pos}
def gLst (K:PySem.W.Frag) (n:Nat) (t:TGs):TG:=fun v σ H Q=>∃ a xs,v=.ref a∧SqL K H a xs∧xs.length=n∧t xs σ H Q
theorem pg_lst {k:Nat} {t:TGs} {n:Nat} (hc:X.calm=true) (h:PGs X es t) (hn:(assignEach es X.env).length=n:=by rfl) (hst:(assignEach es X.env).findIdx? (·.1)=none:=by rfl):PG X (.Tuple es k pos) (gLst X.K n t):=by
 intro pins s σ H v u Q I r hw
 obtain ⟨a,xs,e1,hq,hl,hw⟩:=hw
 subst e1
 cases r
 obtain ⟨its,rv,ht,hz⟩:=I.list hq
 rw [assign_Tuple]
 refine wpAny_bind (wpAny_standAt ?_)
 unfold unpack
 have e:(assignEach es X.env).length=its.toArray.size:=by simp [hn,← hl,rv.length]
 rw [e,hst]
 refine wpAny_bind (wpAny_holding (unpackL (I.ok.hd hc) ht.isList fun h' hx=>?_))
 have I1:Inv X pins σ H { s with heap:=h' }:=I.kept (t':=s.toks) fun b o e=>hx b o (Nat.ne_of_lt (Heap.lt_size e)) e
 exact h pins _ σ H xs _ Q I1 (by simpa using rv) hw
def tgLst (is:List Nat):Tg:=fun x ρ k=>match x with
 | .lst xs=>tgNames is xs ρ k
 | _=>False
theorem tg_lst {is:List Nat} {k:Nat} (hc:X.calm=true) (h:PTs X es is) (hn:(assignEach es X.env).length=is.length:=by rfl) (hst:(assignEach es X.env).findIdx? (·.1)=none:=by rfl):PT1 X (.Tuple es k pos) (tgLst is):=by
 obtain ⟨gg,hg,hlen,q⟩:=h
 refine ⟨_,pg_lst hc hg hn hst,fun v σ H Pr ρ x k hl E r h=>?_⟩
 cases r with
 | lst hs rs=>exact ⟨_,_,rfl,hs.l,by rw [rs.length]; exact tgNames_len h,q _ σ H Pr ρ _ k hl E rs h⟩
 | _=>exact h.elim
variable {e tg:Expr} {te:W L}
def wAsgL (is:List Nat) (te:W L):W Fl:=fun ρ post=>te ρ fun r ρ1=>toD r fun d=>tgLst is d ρ1 fun ρ2=>post .nx ρ2
theorem pm_asgL {is:List Nat} (hg:PT1 X tg (tgLst is)) (he:PL X e te) (hs:swapsWithSole [tg] e pos.line X.env=pure false:=by rfl) (hw:swappedStores [tg] e X.env=pure none:=by rfl)
  (h1:(assignEach [tg] X.env).map (·.2)=[assign tg X.env]:=by rfl):PM X (.Assign [tg] e pos) (wAsgL is te):=by
 intro pins s σ H Pr ρ post I E h
 obtain ⟨gg,hg,hgg⟩:=hg
 refine wpAny_Assign_stores (thn (he pins s σ H Pr ρ _ I E h) fun v s1 q=>?_) hs hw
 obtain ⟨w,H1,d,ρ1,I1,r1,E1,q1⟩:=EL.frz (post:=fun d ρ1=>tgLst is d ρ1 fun ρ2=>post .nx ρ2) q
 rw [h1]
 obtain ⟨_,e1,p1⟩:=E1.head_d
 cases e1
 exact thn (hg pins s1 σ H1 w v _ I1 r1 (hgg w σ H1 Pr ρ1 d _ I1.len E1.tail p1 q1)) fun _ s2 ⟨σ',H',I',e',_,ρ',E',q⟩=>by
  subst e'
  exact ⟨σ',_,ρ',I',E',q⟩
end
end L2
namespace L2
open PySem PySem.Spec PyProof.Rows PySem.Builtin.Str
section
variable {X:Cx} {a tg:Expr} {es:List Expr} {pos p:Pos}
end
end L2
namespace L2
open PySem PySem.Spec PyProof.Rows
section
variable {X:Cx} {e:Expr} {pos:Pos} {t:W Fl}
end
end L2
namespace L2
open PySem PySem.Spec PyProof.Rows PySem.W
section
variable {prog:Program} {w:World} {A:Around} {E:Value→Shared→Prop} {h:Heap} {g:Array GenState} {d:Drawn} {t:Nat} {os:OsState}
variable {nm q:Str} {C N:Addr} {bs bm:List Value} {hdct:Bool} {sn:List Str} {sub:List Value} {ab:Bool} {col:Option Bool} {dd:Option Addr} {k0 k1 k2 k3 k5:Option Value}
end
end L2
namespace L2
open PySem PySem.Spec PyProof.Rows PySem.W
section
variable {prog:Program} {w:World} {A:Around} {E:Value→Shared→Prop} {s:Shared} {K:Frag} {c:Str} {C L:Addr} {cd:ClassData} {env:Env}
structure Fly (h:Heap) (e:Addr) (cls:Value) (dx T:Option Addr):Prop where
 ex:∃ vs sl,h.get? e=some ⟨cls,dx,.fields vs,sl⟩∧1 < vs.size∧(match T with
  | none=>vs[1]?=some .none
  | some t=>vs[1]?=some (.ref t)∧t≠e∧∃ ot ts,h.get? t=some ot∧ot.data=.fields ts∧ts[3]?=some .none)
end
end L2
namespace L2
open PySem PySem.Spec PyProof.Rows PySem.W
def del (H:Hp) (e:Addr):Hp:=fun b=>if b=e then none else H b
section
variable {X:Cx} {pins:List (Addr×Obj)} {σ:St} {H:Hp} {s:Shared}
end
section
variable {X:Cx} {pins:List (Addr×Obj)} {σ:St} {H H':Hp} {s s':Shared}
end
section
variable {K:Frag} {Pr H H':Hp} {σ:St} {ρ:Ev}
end
end L2
namespace L2
open PySem PySem.Spec PyProof.Rows PySem.W
end L2
namespace L2
open PySem PySem.Spec PyProof.Rows PySem.W
theorem Fly.at {h h':Heap} {e:Addr} {cls:Value} {dx:Option Addr} (f:Fly h e cls dx none) (k:∀ o,h.get? e=some o→h'.get? e=some o):Fly h' e cls dx none:=by
 obtain ⟨vs,sl,he,hz,h1⟩:=f
 exact ⟨vs,sl,k _ he,hz,h1⟩
def XO (e:Addr) (cls:Value) (dx:Option Addr):HO:=.ext fun h=>Fly h e cls dx none
def XD (d:Addr) (fs:List (Str×V)):HO:=.ext fun h=>∃ mA,h.Ns1 d mA∧(∀ f,RelO (fs.lookup f) (mA f))∧PySem.Within mA (fs.map (·.1))
theorem XO.ok {P:Program} {w:World} {H:Hp} {h:Heap} {e:Addr} {cls:Value} {dx:Option Addr} (f:Fly h e cls dx none):ObjOk P w H h e (XO e cls dx):=by
 obtain ⟨vs,sl,he,hz,h1⟩:=f
 exact ⟨⟨vs,sl,he,hz,h1⟩,⟨_,he⟩,fun h1 h2 p k=>p.at k⟩
theorem XD.ok {P:Program} {w:World} {H:Hp} {h:Heap} {d:Addr} {fs:List (Str×V)} {mA:Str→Option Value} (n:h.Ns1 d mA) (r:∀ f,RelO (fs.lookup f) (mA f)) (wi:PySem.Within mA (fs.map (·.1))):ObjOk P w H h d (XD d fs) :=
 ⟨⟨mA,n,r,wi⟩,let ⟨o,_,_,e,_⟩:=n; ⟨o,e⟩,fun h1 h2 ⟨mA,n,r⟩ k=>⟨mA,n.at k,r⟩⟩
section
variable {X:Cx} {pins:List (Addr×Obj)} {σ:St} {H:Hp} {s:Shared}
end
section
variable {X:Cx} {a b:Expr} {p1 p2 pos:Pos} {t:TA}
end
end L2
namespace L2
open PySem PySem.Spec PyProof.Rows PySem.W
structure Xc where
 c:Str
 ns:List Str
 ds:List D
def XFly (K:Frag) (H:Hp) (cls:Value) (dx:Option Addr) (x:Xc):Prop:=∃ C vs,cls=.ref C∧excStd K x.c C=true∧(∀ f∈x.ns,findIn K (.ref C) f=some none)∧XF H dx x.ns vs∧Reps K H vs x.ds
theorem XFly.ext {K:Frag} {H H':Hp} {cls:Value} {dx:Option Addr} {x:Xc} (f:XFly K H cls dx x) (h:∀ b o,H b=some o→H' b=some o):XFly K H' cls dx x:=by
 obtain ⟨C,vs,e,s,fq,a,r⟩:=f
 exact ⟨C,vs,e,s,fq,a.pres fun b o _ q=>h b o q,r.pres fun b o _ q=>h b o q⟩
section
variable {X:Cx} {pins:List (Addr×Obj)} {σ:St} {H:Hp} {s:Shared}
theorem HOk.there {P:Program} {w:World} {H:Hp} {h:Heap} (x:HOk P w H h) {b:Addr} {o:HO} (e:H b=some o):∃ u,h.get? b=some u:=by
 have lt:=x.lt e
 cases o with
 | lst xs=>obtain ⟨_,_,_,_,e⟩:=x b _ e; exact ⟨_,e⟩
 | tup xs=>obtain ⟨_,_,_,o,e,_⟩:=x b _ e; exact ⟨_,e⟩
 | dK kvs=>obtain ⟨_,_,_,_,o,_,_,e,_⟩:=x b _ e; exact ⟨_,e⟩
 | dT kvs=>obtain ⟨_,_,_,_,o,_,_,e,_⟩:=x b _ e; exact ⟨_,e⟩
 | set S n=>obtain ⟨o,_,_,_,e,_⟩:=x b _ e; exact ⟨_,e⟩
 | ins C dx fs=>obtain ⟨_,_,_,e,_⟩:=x b _ e; exact ⟨_,e⟩
 | own y=>obtain ⟨_,e⟩:=x b _ e; exact ⟨_,e⟩
 | xd fs=>obtain ⟨_,⟨_,_,_,e,_⟩,_⟩:=x b _ e; exact ⟨_,e⟩
 | rng lo hi=>obtain ⟨_,_,_,e⟩:=x b _ e; exact ⟨_,e⟩
 | frz ob u=>obtain ⟨e,_⟩:=x b _ e; exact ⟨_,e⟩
 | tbl ps=>exact ⟨_,(show h.get? b=some _ from x b _ e)⟩
 | met f y=>exact ⟨_,(show h.get? b=some _ from x b _ e)⟩
 | ext φ=>obtain ⟨_,⟨_,e⟩,_⟩:=x b _ e; exact ⟨_,e⟩
end
abbrev FSX:=List D→(L→Prop)→(Xc→Prop)→Prop
theorem REnv.ds {K:Frag} {H:Hp}:∀ {vs:List V} {ds:List D},Reps K H vs ds→Paired (Slot1 K H) (vs.map some) (ds.map .d)
 | _,_,.nil=>.nil
 | _,_,.cons h t=>.cons ⟨_,rfl,h⟩ (REnv.ds t)
section
variable {X:Cx} {k n:Nat} {f:Addr} {fd:FuncData} {ps:List Str} {fs:FSX} {x:Str} {p pos:Pos} {e:Expr} {es:List Expr} {bs:List (Option Nat)} {t:W (List L)} {xp:Xc→Prop}
end
end L2
namespace L2
open PySem PySem.Spec PyProof.Rows PySem.W
section
variable {X:Cx} {pins:List (Addr×Obj)} {σ:St} {H:Hp} {s:Shared}
end
end L2
namespace L2
open PySem PySem.Spec PyProof.Rows PySem.W
section
variable {K:Frag} {mg:Str→Option Value} {c y:Str} {C D:Addr}
end
section
variable {X:Cx} {pins pins0:List (Addr×Obj)} {σ:St} {H:Hp} {s:Shared} {E:Value→Shared→Prop} {a:Addr}
end
section
variable {X:Cx} {pins0:List (Addr×Obj)} {Pr0:Hp} {xp:Xc→Ev→Prop} {k n:Nat} {f:Addr} {fd:FuncData} {ps:List Str} {fs:FSX} {x:Str} {p pos:Pos} {e:Expr} {es:List Expr} {bs:List (Option Nat)} {t:W (List L)} {te:W L} {tm tu:W Fl} {st:Stmt} {sts:List Stmt}
end
end L2
namespace L2
open PySem PySem.Spec PyProof.Rows PySem.W
section
variable {X:Cx} {pins:List (Addr×Obj)} {σ:St} {H:Hp} {s:Shared}
end
section
variable {X:Cx} {body suite:List Stmt} {b0:Stmt} {c:Str} {C:Addr} {p hp pos:Pos} {tb:(Xc→Ev→Prop)→W Fl} {ts:W Fl}
end
section
variable {X:Cx} {a:Expr} {ta:W L} {pos p:Pos}
end
end L2
namespace L2
open PySem PySem.Spec PyProof.Rows PySem.W
section
variable {X:Cx} {e a:Expr} {te ta:W L} {f:Str} {pos p:Pos}
end
section
variable {X:Cx} {k k' n:Nat} {f:Addr} {fd:FuncData} {ps:List Str} {fs:FSX} {g:Str} {st:Stmt} {e:Expr} {es:List Expr} {bs:List (Option Nat)} {t:W (List L)} {p pos cpos:Pos} {xp:Xc→Prop} {c:Str} {C fI:Addr} {ns:List Str}
end
end L2
namespace L2
open PySem PySem.Spec PyProof.Rows PySem.W
section
variable {X:Cx} {e:Expr} {p apos cpos:Pos} {te:W L} {x:Str}
end
end L2
namespace L2
open PySem PySem.Spec PyProof.Rows PySem.W
section
variable {X:Cx} {a b:Expr} {p p0 pos pos0:Pos} {t u:W L}
end
end L2
namespace L2
open PySem PySem.Spec PyProof.Rows PySem.W
section
variable {X:Cx} {tg:Expr} {t:W Fl} {x:Str} {p pos:Pos}
end
end L2
namespace L2
open PySem PySem.Spec PyProof.Rows
section
variable {prog:Program} {w:World} {A:Around} {E:Value→Shared→Prop} {s:Shared}
end
section
variable {X:Cx}
end
end L2
namespace L2
open PySem PySem.Spec PyProof.Rows
section
variable {κ:Type} [DecidableEq κ]
theorem KV.any {kvs:List (κ×V)} {vs:List (κ×Value)} (r:KV kvs vs) (k:κ):(kvs.any fun kv=>decide (kv.1=k))=vs.any fun kv=>decide (kv.1=k):=by
 unfold KV at r
 induction r with
 | nil=>rfl
 | cons h t ih=>rw [List.any_cons,List.any_cons,ih,h.1]
theorem KV.length {kvs:List (κ×V)} {vs:List (κ×Value)} (r:KV kvs vs):kvs.length=vs.length:=Paired.length r
end
theorem kV_is {P:Program} {w:World} {k:Key} {u:Value} (r:RelV (kV k) u):(mixKind P w).is k u=true:=by
 cases k with
 | inl i=>obtain ⟨t,e⟩:=(show ∃ t,u=Value.int i t from r); subst e; exact mixKind_int P w i t
 | inr x=>obtain ⟨t,e⟩:=(show ∃ t,u=Value.str x t from r); subst e; exact mixKind_str P w x t
end L2
namespace L2
open PySem PySem.Spec PyProof.Rows
abbrev DR (K:PySem.W.Frag) (H:Hp):List (Key×V)→List (Key×D)→Prop:=Paired fun (p:Key×V) (q:Key×D)=>p.1=q.1∧Rep K H p.2 q.2
theorem DR.any {K:PySem.W.Frag} {H:Hp} {k:Key}:∀ {vs:List (Key×V)} {kvs:List (Key×D)},DR K H vs kvs→(vs.any fun p=>decide (p.1=k))=kvs.any fun p=>decide (p.1=k)
 | _,_,.nil=>rfl
 | p::vs,q::kvs,.cons h t=>by rw [List.any_cons,List.any_cons,DR.any t,h.1]
theorem DR.pres {K:PySem.W.Frag} {H H':Hp} (p:Pres H H') {vs:List (Key×V)} {kvs:List (Key×D)} (h:DR K H vs kvs):DR K H' vs kvs:=Paired.mapP h fun _ _ z=>⟨z.1,z.2.pres p⟩
section
variable {K:PySem.W.Frag} {Pr H:Hp} {σ:St} {ρ:Ev} {a:Addr} {kvs ks:List (Key×D)}
end
section
variable {X:Cx} {b e:Expr} {pos p:Pos} {tb te:W L} {x:Str}
def flatC:D→Bool
 | .int _=>true
 | .str _=>true
 | .bl _=>true
 | .non=>true
 | _=>false
theorem Rep.flatC {K:PySem.W.Frag} {H H':Hp} {v:V} {d:D} (h:L2.flatC d=true) (r:Rep K H v d):Rep K H' v d:=by
 cases r with
 | int i=>exact .int i
 | str i=>exact .str i
 | bl i=>exact .bl i
 | non=>exact .non
 | _=>cases h
inductive DPs (X:Cx):List (Option Expr)→List Expr→List (Key×D)→Prop where
 | nil:DPs X [] [] []
 | int {k v:Expr} {ks:List (Option Expr)} {vs:List Expr} {i:Int} {d:D} {kvs:List (Key×D)} (hk:PL X k (wC (.int i))) (hv:PL X v (wC d)) (hf:flatC d=true) (t:DPs X ks vs kvs):DPs X (some k::ks) (v::vs) ((.inl i,d)::kvs)
 | str {k v:Expr} {ks:List (Option Expr)} {vs:List Expr} {y:Str} {d:D} {kvs:List (Key×D)} (hk:PL X k (wC (.str y))) (hv:PL X v (wC d)) (hf:flatC d=true) (t:DPs X ks vs kvs):DPs X (some k::ks) (v::vs) ((.inr y,d)::kvs)
theorem DPs.run {pos:Pos} {pins:List (Addr×Obj)} {σ:St} {Pr:Hp} {ρ:Ev}:∀ {ks:List (Option Expr)} {vs:List Expr} {kvs:List (Key×D)},DPs X ks vs kvs→∀ {H:Hp} {s:Shared} {Q:List (Value×Value)→Shared→Prop},Inv X pins σ H s→REnv X.K Pr H σ ρ →
  (∀ (H':Hp) (s':Shared) (us:List (Value×Value)) (ps:List (Key×V)) (qs:List (Key×Value)),Inv X pins σ H' s'→REnv X.K Pr H' σ ρ→Carries (mixKind X.prog X.w) us qs→KV ps qs→DR X.K H' ps kvs→Q us s') →
  wpAny (model X.prog X.w) X.A (evalPairs (pairTrees ks vs X.env pos)) Q X.xe s
 | _,_,_,.nil,H,s,Q,I,E,h=>pairTrees_nil_walk (h H s [] [] [] I E True.intro .nil .nil)
 | _,_,_,.int (d:=d) hk hv hf t,H,s,Q,I,E,h=>by
  refine pairTrees_cons_walk (thn (hk pins s σ H Pr ρ (fun r ρ'=>r=.d _∧ρ'=ρ) I E ⟨rfl,rfl⟩) fun u s1 ⟨v,H1,r,ρ',I1,rv,E1,e1,e2⟩=>?_)
  subst e1 e2
  refine thn (hv pins s1 σ H1 Pr _ (fun r ρ'=>r=.d d∧ρ'=_) I1 E1.tail ⟨rfl,rfl⟩) fun u2 s2 ⟨v2,H2,r2,ρ2,I2,rv2,E2,e1,e2⟩=>?_
  subst e1 e2
  obtain ⟨_,z1,p1⟩:=E1.head_d
  cases z1
  cases p1
  obtain ⟨_,z2,p2⟩:=E2.head_d
  cases z2
  exact DPs.run t I2 E2.tail fun H' s' us ps qs I3 E3 hc hk3 hd=>h H' s' ((u,u2)::us) ((.inl _,v2)::ps) ((.inl _,u2)::qs) I3 E3 ⟨kV_is rv,rfl,hc⟩ (.cons ⟨rfl,rv2⟩ hk3) (.cons ⟨rfl,p2.flatC hf⟩ hd)
 | _,_,_,.str (d:=d) hk hv hf t,H,s,Q,I,E,h=>by
  refine pairTrees_cons_walk (thn (hk pins s σ H Pr ρ (fun r ρ'=>r=.d _∧ρ'=ρ) I E ⟨rfl,rfl⟩) fun u s1 ⟨v,H1,r,ρ',I1,rv,E1,e1,e2⟩=>?_)
  subst e1 e2
  refine thn (hv pins s1 σ H1 Pr _ (fun r ρ'=>r=.d d∧ρ'=_) I1 E1.tail ⟨rfl,rfl⟩) fun u2 s2 ⟨v2,H2,r2,ρ2,I2,rv2,E2,e1,e2⟩=>?_
  subst e1 e2
  obtain ⟨_,z1,p1⟩:=E1.head_d
  cases z1
  cases p1
  obtain ⟨_,z2,p2⟩:=E2.head_d
  cases z2
  exact DPs.run t I2 E2.tail fun H' s' us ps qs I3 E3 hc hk3 hd=>h H' s' ((u,u2)::us) ((.inr _,v2)::ps) ((.inr _,u2)::qs) I3 E3 ⟨kV_is rv,rfl,hc⟩ (.cons ⟨rfl,rv2⟩ hk3) (.cons ⟨rfl,p2.flatC hf⟩ hd)
theorem DPs.len:∀ {ks:List (Option Expr)} {vs:List Expr} {kvs:List (Key×D)},DPs X ks vs kvs→ks.all (·.isSome)=true∧ks.length=vs.length∧ks.length=kvs.length
 | _,_,_,.nil=>⟨rfl,rfl,rfl⟩
 | _,_,_,.int _ _ _ t=>by
  obtain ⟨h1,h2,h3⟩:=t.len
  simp [h1,h2,← h3]
 | _,_,_,.str _ _ _ t=>by
  obtain ⟨h1,h2,h3⟩:=t.len
  simp [h1,h2,← h3]
end
end L2
namespace L2
open PySem PySem.Spec PyProof.Rows
section
variable {X:Cx}
variable {e:Expr} {p apos cpos:Pos} {te:W L} {x:Str}
end
end L2
namespace L2
open PySem PySem.Spec PyProof.Rows PySem.SeqAt
section
variable {X:Cx} {pins:List (Addr×Obj)} {σ:St} {H:Hp} {s:Shared}
end
end L2
namespace L2
open PySem PySem.Spec PyProof.Rows PySem.SeqAt
mutual
def sgnD:D→Nat
 | .int _=>602
 | .str x=>10*x.length+2
 | .tup xs=>sgnDs xs+3
 | .lst xs=>sgnDs xs+3
 | _=>6
def sgnDs:List D→Nat
 | []=>0
 | x::xs=>sgnD x+2+sgnDs xs
end
mutual
theorem sgn_is:∀ d:D,(toP d).leavesShort 601=true→(toP d).shown.length≤sgnD d
 | .non,_=>by decide
 | .bl b,_=>by cases b <;> decide
 | .int i,h=>by
  have e:(PyData.shown (.int i)).length≤601:=by simpa only [toP,PyData.leavesShort,decide_eq_true_eq] using h
  exact Nat.le_succ_of_le e
 | .str x,h=>by
  have hx:∀ c∈x.cps.toList,c < 16 ^ 8:=by simpa only [toP,PyData.leavesShort,List.all_eq_true,decide_eq_true_eq] using h
  have e:=PySem.StrLaws.reprText_len x hx
  simp only [toP,PyData.shown,sgnD]
  omega
 | .tup xs,h=>by
  have h1:=sgn_iss xs (by simpa only [toP,PyData.leavesShort] using h)
  have h2:=tupleText_len_le (PyData.shownAll (toPs xs))
  have h3:=PyData.shownAll_length (toPs xs)
  simp only [toP,PyData.shown,sgnD]
  omega
 | .lst xs,h=>by
  have h1:=sgn_iss xs (by simpa only [toP,PyData.leavesShort] using h)
  have h2:=listText_len_le (PyData.shownAll (toPs xs))
  have h3:=PyData.shownAll_length (toPs xs)
  simp only [toP,PyData.shown,sgnD]
  omega
 | .dct _,_=>by simp only [toP,sgnD]; decide
 | .exc _ _ _,_=>by simp only [toP,sgnD]; decide
theorem sgn_iss:∀ ds:List D,PyData.leavesShortAll 601 (toPs ds)=true→((PyData.shownAll (toPs ds)).map (·.length)).sum+2*(toPs ds).length≤sgnDs ds
 | [],_=>by simp only [toPs,PyData.shownAll,List.map_nil,List.sum_nil,List.length_nil,sgnDs]; omega
 | d::ds,h=>by
  have h':(toP d).leavesShort 601=true∧PyData.leavesShortAll 601 (toPs ds)=true:=by simpa only [toPs,PyData.leavesShortAll,Bool.and_eq_true] using h
  have h1:=sgn_is d h'.1
  have h2:=sgn_iss ds h'.2
  simp only [toPs,PyData.shownAll,List.map_cons,List.sum_cons,List.length_cons,sgnDs]
  omega
end
structure ReprL (d:D):Prop where
 ok:okD 40 d=true
 sh:shortD d=true
 ln:(toP d).shown.length≤sizeLine
theorem ReprOk.l {d:D} (h:ReprOk d):ReprL d:=⟨h.ok,h.sh,h.len⟩
section
variable {X:Cx}
end
end L2
namespace L2
open PySem PySem.Spec PyProof.Rows
section
variable {X:Cx} {b:Expr} {pos p:Pos} {tb:W L} {x:Str}
end
end L2
namespace L2
open PySem PySem.Spec PyProof.Rows PySem.W
section
variable {prog:Program} {w:World} {A:Around} {E:Value→Shared→Prop} {s:Shared} {r:Addr}
end
section
variable {prog:Program} {w:World} {A:Around} {s:Shared} {R:Result→Shared→Prop}
variable {I:Addr} {fp wr:List Addr} {G:Array GenState→Array GenState→Prop} {n:Nat} {P:Nat→Value→Prop} {St:Nat→Shared→Prop}
end
section
variable {prog:Program} {w:World} {A:Around} {E:Value→Shared→Prop} {s:Shared}
variable {I:Addr} {fp wr:List Addr} {G:Array GenState→Array GenState→Prop} {n:Nat} {P:Nat→Value→Prop} {St:Nat→Shared→Prop}
end
section
variable {X:Cx} {a:Expr} {p p0 pos pos0:Pos} {t:W L}
end
end L2
namespace L2
open PySem PySem.Spec PyProof.Rows
section
variable {X:Cx} {e:Expr} {p apos cpos:Pos} {te:W L} {x:Str}
end
end L2
namespace L2
open PySem PySem.Spec PyProof.Rows
section
variable {X:Cx} {p apos cpos:Pos} {x:Str}
end
end L2
namespace L2
open PySem PySem.Spec PyProof.Rows
section
variable {X:Cx}
end
end L2
namespace L2
open PySem PySem.Spec PyProof.Rows PySem.SeqAt
mutual
def okW:D→Bool
 | .dct n=>n == 0
 | .exc _ _ _=>false
 | .tup xs=>okWs xs
 | .lst xs=>okWs xs
 | .str x=>PyData.strOk x
 | _=>true
def okWs:List D→Bool
 | []=>true
 | x::xs=>okW x && okWs xs
end
section
variable {X:Cx} {pins:List (Addr×Obj)} {σ:St} {H:Hp} {s:Shared}
end
mutual
theorem okW_short:∀ d:D,okW d=true→shortD d=true→(toP d).leavesShort 601=true
 | .non,_,_=>rfl
 | .bl _,_,_=>rfl
 | .dct _,_,_=>rfl
 | .exc _ _ _,h,_=>by simp [okW] at h
 | .int i,_,h=>by
  have:=(short_is (.int i) h).1
  simpa only [toP,PyData.leavesShort,PyData.intsShort] using this
 | .str x,h,hs=>PyData.leavesShort_of_canLay0 601 (.str x) (by simpa only [okW,PyData.canLay0] using h) (short_is (.str x) hs).1
 | .tup xs,h,hs=>by
  have:=okWs_short xs (by simpa only [okW] using h) (by simpa only [shortD] using hs)
  simpa only [toP,PyData.leavesShort] using this
 | .lst xs,h,hs=>by
  have:=okWs_short xs (by simpa only [okW] using h) (by simpa only [shortD] using hs)
  simpa only [toP,PyData.leavesShort] using this
theorem okWs_short:∀ ds:List D,okWs ds=true→shortDs ds=true→PyData.leavesShortAll 601 (toPs ds)=true
 | [],_,_=>rfl
 | d::ds,h,hs=>by
  simp only [okWs,Bool.and_eq_true] at h
  simp only [shortDs,Bool.and_eq_true] at hs
  simp only [toPs,PyData.leavesShortAll,okW_short d h.1 hs.1,okWs_short ds h.2 hs.2,Bool.and_self]
end
structure StrW (d:D):Prop where
 ok:okW d=true
 sh:shortD d=true
 dp:(toP d).depth≤40
 sg:sgnD d≤16777216
 ni:∀ i,d≠.int i
theorem StrW.len {d:D} (h:StrW d):(toP d).shown.length≤sizeLine:=by
 have e:sizeLine=16777216:=by decide
 rw [e]
 exact Nat.le_trans (sgn_is d (okW_short d h.ok h.sh)) h.sg
section
variable {X:Cx}
end
end L2
namespace L2
open PySem PySem.Spec PyProof.Rows
section
variable {X:Cx} {x:Str} {p pos kpos:Pos}
def takeW (o:Option L) (i k:Nat) (ρ:Ev) (post:L→Ev→Prop):Prop:=match o with
 | some (.bx none ls)=>∃ l,ls[k]?=some l∧post l (ρ.set i (.bx none (ls.set k .un)))
 | some (.d (.tup ds))=>∃ d,ds[k]?=some d∧post (.d d) ρ
 | _=>False
theorem takeW_bx (ls:List L) (i k:Nat) (ρ:Ev) (post:L→Ev→Prop):takeW (some (.bx none ls)) i k ρ post=∃ l,ls[k]?=some l∧post l (ρ.set i (.bx none (ls.set k .un))):=(rfl)
theorem takeW_d (ds:List D) (i k:Nat) (ρ:Ev) (post:L→Ev→Prop):takeW (some (.d (.tup ds))) i k ρ post=∃ d,ds[k]?=some d∧post (.d d) ρ:=(rfl)
end
end L2
namespace L2
open PySem PySem.Spec PyProof.Rows
theorem REnv.updFree {K:PySem.W.Frag} {Pr H:Hp} {σ:St} {ρ:Ev} {D:Addr} {vs:List V} (E:REnv K Pr H σ ρ) (hn:D∉owns ρ) (hD:H D=some (.lst vs)) (hp:Pr D=none) (o:HO):REnv K Pr (upd H D o) σ ρ:=by
 have pr:Pres H (upd H D o):=fun b u pu e=>by
  have:b≠D:=fun z=>by rw [z,hD] at e; cases e; exact pu
  rw [upd_ne this]
  exact e
 refine ⟨fun b u e=>?_,E.nd,E.off,?_⟩
 ·
  have:b≠D:=fun z=>by rw [z,hp] at e; cases e
  rw [upd_ne this]
  exact E.sub b u e
 ·
  have key:∀ {σ:St} {ρ:Ev},D∉owns ρ→Paired (Slot1 K H) σ ρ→Paired (Slot1 K (upd H D o)) σ ρ:=by
   intro σ ρ hn h
   induction h with
   | nil=>exact .nil
   | cons q t ih =>
    rw [owns_cons] at hn
    exact .cons (Slot1.pres pr _ (fun a ha=>upd_ne fun z=>hn (List.mem_append_left _ (z ▸ ha))) q) (ih fun z=>hn (List.mem_append_right _ z))
  exact key hn E.sl
theorem REnv.cons_bx0 {K:PySem.W.Frag} {Pr H:Hp} {σ:St} {ρ:Ev} (E:REnv K Pr H σ ρ) {p:Addr} (h:H p=none):REnv K Pr (upd H p (.lst [])) (some (.ref p)::σ) (.bx (some p) []::ρ):=by
 refine REnv.closeO (vs:=[]) (ls:=[]) rfl upd_same (fun z=>?_) ?_ (E.new h)
 ·
  obtain ⟨o,e,_⟩:=E.at_own (show p∈owns ρ from z)
  rw [h] at e; cases e
 ·
  cases q:Pr p with
  | none=>rfl
  | some u=>rw [E.sub _ u q] at h; cases h
theorem REnv.bxPush {K:PySem.W.Frag} {Pr H:Hp} {τ:St} {ρ:Ev} {D:Addr} {vy:V} {r:L} {acc:List L} (E:REnv K Pr H (some vy::(some (V.ref D)::τ)) (r::(.bx (some D) acc::ρ))) :
  ∃ vs,H D=some (.lst vs)∧vs.length=acc.length∧REnv K Pr (upd H D (.lst (vs++[vy]))) (some (.ref D)::τ) (.bx (some D) (acc++[r])::ρ):=by
 have hl:=E.len
 have E1:REnv K Pr H (some (V.ref D)::(some vy::τ)) (.bx (some D) acc::(r::ρ)):=E.rearr (by simpa using hl) [] (by
  rw [List.append_nil,List.zip_cons_cons,List.zip_cons_cons,List.zip_cons_cons,List.zip_cons_cons]
  exact .swap _ _ _)
 obtain ⟨vs,_,hD,hvl,hn,hp,E2⟩:=E1.openO
 refine ⟨vs,hD,hvl,?_⟩
 have e1:vs.map some++(some vy::τ)=(vs++[vy]).map some++τ:=by simp
 have e2:acc++(r::ρ)=(acc++[r])++ρ:=by simp
 rw [e1,e2] at E2
 rw [e2] at hn
 exact (E2.updFree hn hD hp (.lst (vs++[vy]))).closeO (by simp [hvl]) upd_same hn hp
def compLB (g:Tg) (ti:W Bool) (te:W L):List D→Ev→List L→(List L→Ev→Prop)→Prop
 | [],ρ,acc,k=>k acc ρ
 | x::xs,ρ,acc,k=>g x ρ fun ρ1=>ti ρ1 fun b ρ2=>if b=true then te ρ2 fun r ρ3=>compLB g ti te xs ρ3 (acc++[r]) k else compLB g ti te xs ρ2 acc k
def wCompB (n:Nat) (fi:List Nat) (src:W (List D)) (g:Tg) (ti:W Bool) (te:W L):W L:=fun ρ post=>src ρ fun xs ρ1=>xs.length≤sizeLine ∧
 compLB g ti te xs (List.replicate n .un++capsOf fi ρ1) [] fun ys ρb=>∀ a,post (.bx (some a) ys) (putAll fi (ρb.drop n) (unsAt fi ρ1))
section
variable {X:Cx}
theorem comp_coreB {elt tg iter:Expr} {ifs:List Expr} {scope sc:Scope} {pos:Pos} {N Nt Nf:List Str} {fi:List Nat} {src:W (List D)} {g:Tg} {ti:W Bool} {te:W L}
  (hsc:X.env.scope=sc) (hXN:X.N=N) (hc:X.calm=true) (hi:PIL X tg iter src)
  (hkind:scope.kind=.function) (hnames:∀ x∈scope.names,x.2=.local→scope.names.lookup x.1=some .local) (hcell:∀ y∈scope.names,y.2≠.cell)
  (hfr:∀ x∈scope.names,x.2=.free→sc.names.lookup x.1=some .cell∨sc.names.lookup x.1=some .free)
  (hnd:fi.Nodup) (hNf:Nf.map some=fi.map (fun j=>N[j]?)) (hNk:∀ x∈Nf,scope.names.lookup x=some .free) (hfl:∀ j∈fi,j < N.length)
  (hg:∀ cl s₀ H₀ fp,PTc (cxComp X scope cl (Nt++Nf) s₀ H₀ fp) tg Nt.length g) (hti:∀ cl s₀ H₀ fp,PIf (cxComp X scope cl (Nt++Nf) s₀ H₀ fp) ifs ti) (hte:∀ cl s₀ H₀ fp,PL (cxComp X scope cl (Nt++Nf) s₀ H₀ fp) elt te)
  {pins:List (Addr×Obj)} {s:Shared} {σ:St} {H Pr:Hp} {ρ:Ev} {post:L→Ev→Prop} {use:Option (Value→Sem Unit)} {Q:Value→Shared→Prop} (I:Inv X pins σ H s) (E:REnv X.K Pr H σ ρ) (h:wCompB Nt.length fi src g ti te ρ post)
  (hRR:∀ D C s7 H6 acc ρ'' m,Inv X pins σ H6 s7→s7.heap.Ns C m→H6 C=none→C≠X.env.locals→X.s₀.heap.objs.size≤C→(∀ x c,X.env.cells.lookup x=some c→c≠C)→(∀ p∈X.pn++pins,p.1≠C)→REnv X.K Pr H6 (some (.ref D)::σ) (.bx (some D) acc::ρ'')→post (.bx (some D) acc) ρ'' →
   compPost (model X.prog X.w) X.A X.xe use Q (.ref D) C (.ok .next) s7)
  (hs:∀ x,foldedSetIterable iter X.env x=pure x):wpAny (model X.prog X.w) X.A (comprehension (.ListComp elt [⟨tg,iter,ifs,0⟩] scope pos) scope X.env (firstIterPos [⟨tg,iter,ifs,0⟩] pos) (newList []) false (eval iter X.env) use) Q X.xe s:=by
 have hcells:∀ x∈scope.names,x.2=.free→∃ c,X.env.cells.lookup x.1=some c:=fun x hx hk=>I.ok.has x.1 (by
  show X.env.scope.names.lookup x.1=_∨X.env.scope.names.lookup x.1=_
  rw [hsc]; exact hfr x hx hk)
 have hsub:=clOf_sub (cells:=X.env.cells) scope.names [] (fun x c e=>by simp at e)
 refine wpAny_comprehension_free (use:=use) rfl hs (closureFor_cl hcells) hkind hnames (thn (hi pins s σ H Pr ρ _ I E h) fun v s1 h1=>thn h1 fun itv s2 h2=>?_)
 obtain ⟨it,fp,tn,J,H2,xs,ρ2,e,I2,T,st2,f2,E2,G,hlen,w0⟩:=h2
 subst e
 refine wpAny_newObj_type (T:="list") ?_
 generalize hD:s2.heap.objs.size=D
 have fD:H2 D=none:=by rw [← hD]; exact I2.fresh
 have I3:Inv X pins σ (upd H2 D (.lst [])) { s2 with heap:=s2.heap.push { cls:=.type "list",dict:=none,data:=.seq ([]:List Value).toArray } }:=by
  have:=Inv.lnew (ys:=[]) (its:=[]) (t':=s2.toks) I2 .nil (Nat.zero_le _)
  rw [hD] at this
  exact this
 have E3:=E2.cons_bx0 (p:=D) fD
 have sz3:(s2.heap.push { cls:=.type "list",dict:=none,data:=.seq ([]:List Value).toArray }).objs.size=D+1:=by rw [Heap.size_push,hD]
 generalize hs3:({ s2 with heap:=s2.heap.push { cls:=.type "list",dict:=none,data:=.seq ([]:List Value).toArray } }:Shared)=s3 at I3
 have hs3h:s3.heap=s2.heap.push { cls:=.type "list",dict:=none,data:=.seq ([]:List Value).toArray }:=by rw [← hs3]
 have fpD:∀ b∈fp,b≠D:=fun b hb=>by
  obtain ⟨o,e,_⟩:=T.obj 0 _ st2 b hb
  rw [← hD]; exact Nat.ne_of_lt (Heap.lt_size e)
 have old3:∀ b o,s2.heap.get? b=some o→s3.heap.get? b=some o:=fun b o e=>by rw [hs3h]; exact Heap.get?_push_of_some _ e
 refine wpAny_newFunctionEnv (around:=some X.env) hcell (by intro y hy; simp at hy) (fun h4 hns4 hsb4=>?_) hkind
 have hns4':h4.Ns s3.heap.objs.size (fun _=>none):=by
  have:(fun x=>(([]:List (Str×Value)).reverse.lookup x))=fun _=>(none:Option Value):=by funext x; rfl
  rw [this] at hns4
  exact hns4
 have old4:∀ b o,s3.heap.get? b=some o→h4.get? b=some o:=fun b o e=>by
  rw [hsb4.2 b (Nat.ne_of_lt (Heap.lt_size e))]; exact Heap.get?_push_of_some _ e
 have hσl:σ.length=N.length:=by rw [← hXN]; exact I.len
 have hρ2:σ.length=ρ2.length:=E2.len
 have hjσ:∀ j∈fi,j < σ.length:=fun j hj=>by rw [hσl]; exact hfl j hj
 have hjρ:∀ j∈fi,j < ρ2.length:=fun j hj=>by rw [← hρ2]; exact hjσ j hj
 have hfpl:∀ b∈fp,b < s3.heap.objs.size:=fun b hb=>by
  obtain ⟨o,e,_⟩:=T.obj 0 _ st2 b hb
  exact Heap.lt_size (old3 b o e)
 have hlNf:Nf.length=fi.length:=by have:=congrArg List.length hNf; simpa using this
 have Bok:(cxComp X scope (clOf X.env.cells scope.names []) (Nt++Nf) s3 (upd H2 D (.lst [])) fp).Ok:=by
  refine ⟨I3.ok.mod,hkind,I.ok.glob,I.ok.blt,Nat.le_refl _,fun x y c e1 e2=>I.ok.inj x y c (hsub x c e1) (hsub y c e2),fun x hx=>?_,fun x c hf _=>(Bool.false_ne_true hf).elim,I.ok.hd,I.ok.frames,.inl rfl,fun b hb=>⟨Nat.ne_of_lt (hfpl b hb),fun x c e=>(f2 b hb).2.2.2.2.1 x c (hsub x c e)⟩,I3.bs,Nat.le_trans I.ok.bsz I3.sz,fun b o e hb=>?_,fun b hb hm=>?_,I3.stack,I3.stkFree⟩
  ·
   have hm:(x,NameKind.free)∈scope.names:=by
    rcases hx with hx | hx
    ·
     exact relabel_mem (env:=X.env) hcell (.inl rfl) hx
    ·
     exact relabel_mem (env:=X.env) hcell (.inr rfl) hx
   exact clOf_has scope.names [] x (.inr ⟨hm,hcells _ hm rfl⟩)
  ·
   rcases (f2 b hb).2.2.2.1 with z | z
   ·
    exact I.ok.noex b o e z
   ·
    exact absurd (Nat.lt_of_lt_of_le (Heap.lt_size (I.ok.bs b o e).1) z) (Nat.lt_irrefl _)
  ·
   rcases List.mem_cons.mp (I3.stkSub b hm) with z | z
   ·
    exact (f2 b hb).2.1 z
   ·
    exact (f2 b hb).2.2.1 z
 have I4:Inv (cxComp X scope (clOf X.env.cells scope.names []) (Nt++Nf) s3 (upd H2 D (.lst [])) fp) [] (List.replicate Nt.length none++capSt fi σ) (upd H2 D (.lst [])) { s3 with heap:=h4,toks:=s3.toks+([]:List (Str×Value)).length }:=by
  refine ⟨Bok,rfl,I3.bare,Un.kept old4,⟨_,hns4',fun i x v e1 e2 e3=>?_⟩,fun x c e=>?_,I3.fresh,fun x c e=>I3.freeC x c (hsub x c e),fun p hp=>absurd (show p∈([]:List (Addr×Obj)) from hp) (by simp),I3.hok.kept old4,?_⟩
  ·
   have e1:(Nt++Nf)[i]?=some x:=e1
   have hi':Nt.length≤i:=by
    by_cases q:i < Nt.length
    ·
     rw [List.getElem?_append_left (by simpa using q),List.getElem?_replicate] at e2
     split at e2 <;> cases e2
    ·
     omega
   rw [List.getElem?_append_right hi'] at e1
   rw [List.getElem?_append_right (by simpa using hi')] at e2
   simp only [List.length_replicate] at e2
   generalize i - Nt.length=k at e1 e2
   have hk:k < fi.length:=by
    have:=(List.getElem?_eq_some_iff.mp e1).1
    omega
   have e4:(Nf.map some)[k]?=(fi.map fun j=>N[j]?)[k]?:=by rw [hNf]
   rw [List.getElem?_map,List.getElem?_map,e1,List.getElem?_eq_getElem hk] at e4
   have e5:N[fi[k]]?=some x:=by simpa using e4.symm
   have e6:σ[fi[k]]?=some (some v):=by
    unfold capSt at e2
    rw [List.getElem?_map,List.getElem?_eq_getElem hk] at e2
    have hjl:=hjσ fi[k] (List.getElem_mem hk)
    rw [List.getElem?_eq_getElem hjl]
    simpa [List.getElem?_eq_getElem hjl] using e2
   have hxm:x∈Nf:=List.mem_of_getElem? e1
   have hfree:=hNk x hxm
   have hmem:(x,NameKind.free)∈scope.names:=PySem.mem_of_lookup hfree
   have hkx:=hfr _ hmem rfl
   obtain ⟨m,_,hl⟩:=I3.loc
   obtain ⟨u,ru,lk⟩:=hl fi[k] x v (by rw [hXN]; exact e5) e6 (by rw [hsc]; exact .inr hkx)
   refine ⟨u,ru,.inr ⟨lookup_relabel_free (env:=X.env) hfree,?_⟩⟩
   rcases lk with ⟨z,_⟩ | ⟨_,c,hc1,hc2⟩
   ·
    have z:X.env.scope.names.lookup x=some .local:=z
    rw [hsc] at z
    rcases hkx with q | q
    ·
     rw [z] at q; cases q
    ·
     rw [z] at q; cases q
   ·
    obtain ⟨d,hd⟩:=clOf_has (cells:=X.env.cells) scope.names [] x (.inr ⟨hmem,c,hc1⟩)
    have:d=c:=by have:=hsub x d hd; rw [hc1] at this; exact (Option.some.inj this).symm
    subst this
    obtain ⟨o,ho,hdd⟩:=hc2
    exact ⟨d,hd,o,old4 _ o ho,hdd⟩
  ·
   obtain ⟨v,o,ho,hd⟩:=I3.cell x c (hsub x c e)
   exact ⟨v,o,old4 c o ho,hd⟩
  ·
   show (List.replicate Nt.length none++capSt fi σ).length=(Nt++Nf).length
   simp [capSt,hlNf]
 have E4:REnv X.K Pr (upd H2 D (.lst [])) (some (.ref D)::(σ++(List.replicate Nt.length none++capSt fi σ))) (.bx (some D) []::(unsAt fi ρ2++(List.replicate Nt.length .un++capsOf fi ρ2))):=by
  have a1:REnv X.K Pr (upd H2 D (.lst [])) (σ++[some (.ref D)]) (ρ2++[.bx (some D) []]):=E3.rearr (by simp [hρ2]) [] (by
   rw [List.append_nil,List.zip_append hρ2]
   exact (List.perm_append_comm (l₁:=[(some (V.ref D),L.bx (some D) [])]) (l₂:=σ.zip ρ2)))
  have a2:=a1.takes fi hnd fun j hj=>by have:=hjρ j hj; simp; omega
  rw [capSt_app hjσ,capsOf_app hjρ,unsAt_app hjρ] at a2
  have a3:=a2.uns Nt.length
  have hcl:(capSt fi σ).length=(capsOf fi ρ2).length:=by simp [capSt,capsOf]
  have hul:σ.length=(unsAt fi ρ2).length:=by rw [unsAt_len]; exact hρ2
  refine a3.rearr (by simp [hul,hcl]) [] ?_
  have l1:(capSt fi σ++(σ++[some (V.ref D)])++List.replicate Nt.length none).zip (capsOf fi ρ2++(unsAt fi ρ2++[L.bx (some D) []])++List.replicate Nt.length L.un)=((capSt fi σ).zip (capsOf fi ρ2)++(σ.zip (unsAt fi ρ2)++[(some (V.ref D),L.bx (some D) [])]))++(List.replicate Nt.length none).zip (List.replicate Nt.length L.un):=by
   rw [List.zip_append (by simp only [List.length_append,hcl,hul]; rfl),List.zip_append hcl,List.zip_append hul]
   rfl
  have l2:(some (V.ref D)::(σ++(List.replicate Nt.length none++capSt fi σ))).zip (L.bx (some D) []::(unsAt fi ρ2++(List.replicate Nt.length L.un++capsOf fi ρ2)))=(some (V.ref D),L.bx (some D) [])::(σ.zip (unsAt fi ρ2)++((List.replicate Nt.length none).zip (List.replicate Nt.length L.un)++(capSt fi σ).zip (capsOf fi ρ2))):=by
   rw [List.zip_cons_cons,List.zip_append hul,List.zip_append (by simp)]
  rw [List.append_nil,l1,l2]
  generalize (capSt fi σ).zip (capsOf fi ρ2)=z1
  generalize σ.zip (unsAt fi ρ2)=z2
  generalize (List.replicate Nt.length none).zip (List.replicate Nt.length L.un)=z3
  show (z1++(z2++[(some (V.ref D),L.bx (some D) [])])++z3).Perm ((some (V.ref D),L.bx (some D) [])::(z2++(z3++z1)))
  have p1:(z1++(z2++[(some (V.ref D),L.bx (some D) [])])++z3).Perm ((z2++[(some (V.ref D),L.bx (some D) [])])++z3++z1):=by
   rw [List.append_assoc]
   exact List.perm_append_comm
  refine p1.trans ?_
  rw [List.append_assoc,List.append_assoc]
  exact List.perm_middle
 clear E3
 let B:Cx:=cxComp X scope (clOf X.env.cells scope.names []) (Nt++Nf) s3 (upd H2 D (.lst [])) fp
 have hul:σ.length=(unsAt fi ρ2).length:=by rw [unsAt_len]; exact hρ2
 have stat:∀ {H':Hp},(∀ b∈fp,H' b=none)→∀ b∈fp,FpOk B [] H' b:=fun hn b hb=>by
  refine ⟨hn b hb,Nat.ne_of_lt (hfpl b hb),fun hm=>?_,.inl hb,fun x c e=>(f2 b hb).2.2.2.2.1 x c (hsub x c e),fun p hp=>absurd (show p∈([]:List (Addr×Obj)) from hp) (by simp)⟩
  rcases List.mem_cons.mp (I3.stkSub b hm) with z | z
  ·
   exact (f2 b hb).2.1 z
  ·
   exact (f2 b hb).2.2.1 z
 have loop:∀ s5:Shared,s5={ s3 with heap:=h4,toks:=s3.toks+([]:List (Str×Value)).length }→codeAny (model X.prog X.w) X.A (.compLoop (.ListComp elt [⟨tg,iter,ifs,0⟩] scope pos) 0 (.ref it) (.ref D) B.env)
   (compPost (model X.prog X.w) X.A X.xe use Q (.ref D) s3.heap.objs.size) s5:=by
  rintro s5 rfl
  refine comp_loop (fun n s'=>∃ i σ' H' ρ' acc,n+i=xs.length∧Inv B [] σ' H' s'∧tn i s'.heap∧(∀ b∈fp,H' b=none)∧σ'.drop Nt.length=capSt fi σ∧REnv X.K Pr H' (some (.ref D)::(σ++σ')) (.bx (some D) acc::(unsAt fi ρ2++ρ'))∧acc.length≤i ∧
   compLB g ti te (xs.drop i) ρ' acc fun ys ρb=>∀ a,post (.bx (some a) ys) (putAll fi (ρb.drop Nt.length) (unsAt fi ρ2))) ?_ xs.length
   ⟨0,_,_,_,[],by omega,I4,T.keep 0 _ _ st2 fun b hb o e=>old4 b o (old3 b o e),fun b hb=>by rw [upd_ne (fpD b hb)]; exact (f2 b hb).1,by simp,E4,Nat.le_refl _,by simpa using w0⟩
  rintro n s6 ⟨i,σ6,H6,ρ6,acc,hn,I6,st6,fr6,dr6,E6,hal,w6⟩
  have pr:Pres H2 H6:=fun b o p e=>by
   have ne:b≠D:=fun z=>by rw [z,fD] at e; cases e
   have e':B.H₀ b=some o:=by show upd H2 D (.lst []) b=some o; rw [upd_ne ne]; exact e
   cases o with
   | tup ys=>exact I6.base.tups b ys e'
   | frz ob u=>exact I6.base.frzs b ob u e'
   | _=>exact p.elim
  obtain ⟨go,stop⟩:=G H6 pr
  have hτ:(some (V.ref D)::σ).length=(L.bx (some D) acc::unsAt fi ρ2).length:=by simp [hul]
  by_cases hlt:i < xs.length
  ·
   obtain ⟨hgo,hy⟩:=go i xs[i] (List.getElem?_eq_getElem hlt)
   rw [List.drop_eq_getElem_cons hlt] at w6
   refine thn (T.item B rfl rfl rfl hc i [] s6 σ6 H6 (fun _ _=>False) I6 (stat fr6) st6 hgo) fun r s7 ⟨u,hr,h7⟩=>?_
   subst hr
   refine thn h7 fun _ s8 ⟨x,H8,I8,r8,y8,st8,fr8⟩=>?_
   obtain ⟨gr,rx⟩:=hy x H8 y8
   have I8':=I8.pinned (stat fr8) (T.obj _ _ st8)
   have E8:=E6.grown gr
   have E8a:REnv X.K (butOwn H8 ρ6) H8 σ6 ρ6:=(REnv.drop (τ:=some (V.ref D)::σ) (lam:=L.bx (some D) acc::unsAt fi ρ2) E8 hτ).wide
   obtain ⟨gg,hgg,hgs⟩:=hg (clOf X.env.cells scope.names []) s3 (upd H2 D (.lst [])) fp
   refine thn (hgg _ s8 σ6 H8 x u _ I8' r8 (hgs x σ6 H8 _ ρ6 xs[i] _ I8.len E8a rx w6)) fun _ s9 ⟨σ9,H9,I9,e9,dr9,ρ9,E9,q9⟩=>?_
   subst e9
   have F9:REnv X.K Pr H9 (some (V.ref D)::(σ++σ9)) (L.bx (some D) acc::(unsAt fi ρ2++ρ9)):=REnv.step (τ:=some (V.ref D)::σ) (lam:=L.bx (some D) acc::unsAt fi ρ2) (w:=[]) (μ:=[]) E8 hτ E9 rfl
   have F9a:REnv X.K (butOwn H9 ρ9) H9 σ9 ρ9:=(REnv.drop (τ:=some (V.ref D)::σ) (lam:=L.bx (some D) acc::unsAt fi ρ2) F9 hτ).wide
   refine thn (hti _ _ _ _ _ s9 σ9 H9 _ ρ9 _ I9 F9a q9) fun ok sA ⟨HA,ρA,IA,EA,qA⟩=>?_
   have FA:REnv X.K Pr HA (some (V.ref D)::(σ++σ9)) (L.bx (some D) acc::(unsAt fi ρ2++ρA)):=REnv.step (τ:=some (V.ref D)::σ) (lam:=L.bx (some D) acc::unsAt fi ρ2) (w:=[]) (μ:=[]) F9 hτ EA rfl
   have again:∀ {sZ:Shared} {HZ:Hp} {ρZ:Ev} {acc':List L},Inv B ([]++pinsAt fp s8.heap) σ9 HZ sZ→REnv X.K Pr HZ (some (.ref D)::(σ++σ9)) (.bx (some D) acc'::(unsAt fi ρ2++ρZ))→acc'.length≤i+1 →
     (compLB g ti te (xs.drop (i+1)) ρZ acc' fun ys ρb=>∀ a,post (.bx (some a) ys) (putAll fi (ρb.drop Nt.length) (unsAt fi ρ2)))→∃ m,m < n∧∃ i σ' H' ρ' acc,m+i=xs.length∧Inv B [] σ' H' sZ∧tn i sZ.heap∧(∀ b∈fp,H' b=none)∧σ'.drop Nt.length=capSt fi σ ∧
     REnv X.K Pr H' (some (.ref D)::(σ++σ')) (.bx (some D) acc::(unsAt fi ρ2++ρ'))∧acc.length≤i∧compLB g ti te (xs.drop i) ρ' acc fun ys ρb=>∀ a,post (.bx (some a) ys) (putAll fi (ρb.drop Nt.length) (unsAt fi ρ2)):=fun {sZ HZ ρZ acc'} IZ EZ hz qZ=>by
    refine ⟨n - 1,by omega,i+1,σ9,HZ,ρZ,acc',by omega,IZ.unpinned,T.keep _ _ _ st8 fun b hb o e=>(IZ.pin (b,o) (List.mem_append_right _ (List.mem_append_right _ (mem_pinsAt hb e)))).1,fun b hb=>?_,dr9.trans dr6,EZ,hz,qZ⟩
    obtain ⟨o,e,d⟩:=T.obj _ _ st8 b hb
    exact (IZ.pin (b,o) (List.mem_append_right _ (List.mem_append_right _ (mem_pinsAt hb e)))).2.1
   cases ok with
   | false =>
    rw [if_neg Bool.false_ne_true] at qA ⊢
    exact again IA FA (by omega) qA
   | true =>
    rw [if_pos rfl] at qA ⊢
    have FAa:REnv X.K (butOwn HA ρA) HA σ9 ρA:=(REnv.drop (τ:=some (V.ref D)::σ) (lam:=L.bx (some D) acc::unsAt fi ρ2) FA hτ).wide
    refine thn (hte _ _ _ _ _ sA σ9 HA _ ρA _ IA FAa qA) fun ux sB qB=>?_
    obtain ⟨vy,HB,y,ρB,IB,rB,EB,qB⟩:=qB
    have FB:REnv X.K Pr HB (some vy::(some (V.ref D)::(σ++σ9))) (y::(L.bx (some D) acc::(unsAt fi ρ2++ρB))):=REnv.step (τ:=some (V.ref D)::σ) (lam:=L.bx (some D) acc::unsAt fi ρ2) (w:=[some vy]) (μ:=[y]) FA hτ EB rfl
    obtain ⟨vs,hDB,hvl,FC⟩:=FB.bxPush
    refine thn (mt_append (X:=B) _ sB σ9 HB (.ref D) [vy] (.ref D) [ux] (fun z H'=>H'=upd HB D (.lst (vs++[vy]))) IB rfl (.cons rB .nil) ⟨D,vs,vy,rfl,rfl,hDB,by rw [hvl]; omega,rfl⟩) fun _ sC ⟨z,HC,IC,_,eC⟩=>?_
    subst eC
    exact again IC FC (by simp; omega) qB
  ·
   have e:i=xs.length:=by omega
   subst e
   refine thn (T.done B rfl rfl rfl hc xs.length [] s6 σ6 H6 (fun _ _=>False) I6 (stat fr6) st6 stop) fun r s7 ⟨hr,I7⟩=>?_
   subst hr
   rw [List.drop_length] at w6
   obtain ⟨m,hm,_⟩:=id I7.loc
   have I8:Inv X pins σ H6 s7:=I3.call' (ch:=fp) I7.os I7.base I7.hok I7.bare fun b hb=>⟨(f2 b hb).2.2.2.1,(f2 b hb).2.1,(f2 b hb).2.2.2.2.1,(f2 b hb).2.2.2.2.2⟩
   have f4:=I3.fpOk (H':=H6) (b:=s3.heap.objs.size) (Nat.le_refl _) I7.free
   ·
    have hlen6:σ6.length=ρ6.length:=(REnv.drop (τ:=some (V.ref D)::σ) (lam:=L.bx (some D) acc::unsAt fi ρ2) E6 hτ).len
    have a1:REnv X.K Pr H6 (capSt fi σ++(σ++[some (V.ref D)])) (ρ6.drop Nt.length++(unsAt fi ρ2++[L.bx (some D) acc])):=by
     have hcd:(capSt fi σ).length=(ρ6.drop Nt.length).length:=by rw [← dr6,List.length_drop,List.length_drop,hlen6]
     refine E6.rearr (by simp [hcd,hul,hlen6]) ((σ6.take Nt.length).zip (ρ6.take Nt.length)) ?_
     have l0:σ6.zip ρ6=(σ6.take Nt.length).zip (ρ6.take Nt.length)++(capSt fi σ).zip (ρ6.drop Nt.length):=by
      rw [← dr6,← List.zip_append (by simp [hlen6]),List.take_append_drop,List.take_append_drop]
     have l1:(some (V.ref D)::(σ++σ6)).zip (L.bx (some D) acc::(unsAt fi ρ2++ρ6))=(some (V.ref D),L.bx (some D) acc)::(σ.zip (unsAt fi ρ2)++σ6.zip ρ6):=by rw [List.zip_cons_cons,List.zip_append hul]
     have l2:(capSt fi σ++(σ++[some (V.ref D)])).zip (ρ6.drop Nt.length++(unsAt fi ρ2++[L.bx (some D) acc]))=(capSt fi σ).zip (ρ6.drop Nt.length)++(σ.zip (unsAt fi ρ2)++[(some (V.ref D),L.bx (some D) acc)]):=by
      rw [List.zip_append hcd,List.zip_append hul]; rfl
     rw [l1,l2,l0]
     generalize (capSt fi σ).zip (ρ6.drop Nt.length)=z1
     generalize σ.zip (unsAt fi ρ2)=z2
     generalize (σ6.take Nt.length).zip (ρ6.take Nt.length)=z3
     have p1:((some (V.ref D),L.bx (some D) acc)::(z2++(z3++z1))).Perm ((z2++[(some (V.ref D),L.bx (some D) acc)])++(z3++z1)):=by
      rw [List.append_assoc]
      exact List.perm_middle.symm
     refine p1.trans ?_
     have p2:((z2++[(some (V.ref D),L.bx (some D) acc)])++(z3++z1)).Perm ((z3++z1)++(z2++[(some (V.ref D),L.bx (some D) acc)])):=List.perm_append_comm
     refine p2.trans ?_
     rw [List.append_assoc]
     exact List.perm_append_comm
    have a2:=REnv.backs (σ:=σ++[some (V.ref D)]) (cs:=ρ6.drop Nt.length) (ρ:=unsAt fi ρ2++[L.bx (some D) acc]) fi hnd (by rw [List.length_drop,← hlen6,← List.length_drop,dr6]; simp [capSt]) (fun j hj=>by
     rw [List.getElem?_append_left (by rw [unsAt_len]; exact hjρ j hj)]; exact unsAt_un fi ρ2 j hj (hjρ j hj)) (fun j hj=>by have:=hjσ j hj; simp; omega) (by rw [capSt_app hjσ]; exact a1)
    rw [putAll_app fun j hj=>by rw [unsAt_len]; exact hjρ j hj] at a2
    have hpl:σ.length=(putAll fi (ρ6.drop Nt.length) (unsAt fi ρ2)).length:=by have:=a2.len; simpa using this
    refine hRR D s3.heap.objs.size s7 H6 acc (putAll fi (ρ6.drop Nt.length) (unsAt fi ρ2)) m I8 hm f4.1 f4.2.1 I3.sz f4.2.2.2.2.1 f4.2.2.2.2.2 (a2.rearr (by simp [hpl]) [] ?_) (w6 D)
    rw [List.append_nil,List.zip_append hpl,List.zip_cons_cons]
    exact List.perm_append_comm (l₂:=[(some (V.ref D),L.bx (some D) acc)])
 exact codeAny_compStart_list (loop _ rfl) (T.self _ 0 _ _ _ (T.keep 0 _ _ st2 fun b hb o e=>old4 b o (old3 b o e)) (loop _ rfl))
theorem pl_compB {elt tg iter:Expr} {ifs:List Expr} {scope sc:Scope} {pos:Pos} {N Nt Nf:List Str} {fi:List Nat} {src:W (List D)} {g:Tg} {ti:W Bool} {te:W L}
  (hsc:X.env.scope=sc) (hXN:X.N=N) (hc:X.calm=true) (hi:PIL X tg iter src)
  (hkind:scope.kind=.function) (hnames:∀ x∈scope.names,x.2=.local→scope.names.lookup x.1=some .local) (hcell:∀ y∈scope.names,y.2≠.cell)
  (hfr:∀ x∈scope.names,x.2=.free→sc.names.lookup x.1=some .cell∨sc.names.lookup x.1=some .free)
  (hnd:fi.Nodup) (hNf:Nf.map some=fi.map (fun j=>N[j]?)) (hNk:∀ x∈Nf,scope.names.lookup x=some .free) (hfl:∀ j∈fi,j < N.length)
  (hg:∀ cl s₀ H₀ fp,PTc (cxComp X scope cl (Nt++Nf) s₀ H₀ fp) tg Nt.length g) (hti:∀ cl s₀ H₀ fp,PIf (cxComp X scope cl (Nt++Nf) s₀ H₀ fp) ifs ti) (hte:∀ cl s₀ H₀ fp,PL (cxComp X scope cl (Nt++Nf) s₀ H₀ fp) elt te)
  (hs:∀ x,foldedSetIterable iter X.env x=pure x:=by intro _; rfl):PL X (.ListComp elt [⟨tg,iter,ifs,0⟩] scope pos) (wCompB Nt.length fi src g ti te):=by
 intro pins s σ H Pr ρ post I E h
 rw [eval_ListComp]
 refine comp_coreB (use:=none) hsc hXN hc hi hkind hnames hcell hfr hnd hNf hNk hfl hg hti hte I E h (fun D C s7 H6 acc ρ'' m I7 hm h1 h2 h3 h4 h5 E7 p=>?_) hs
 exact ⟨m,hm,fun h' hsb=>⟨.ref D,H6,_,ρ'',I7.turned (t':=s7.toks) (fun b o hb e=>(hsb.2 b hb).trans e) h1 (Ne.symm (Ne.symm h2)) (.inr h3) h4 h5,rfl,E7,p⟩⟩
end
end L2
namespace L2
open PySem PySem.Spec PyProof.Rows
section
variable {X:Cx} {e:Expr} {p pos:Pos} {te:W L}
def tupOf (r:L) (ρ:Ev) (post:L→Ev→Prop):Prop:=match r with
 | .bx (some _) ls=>post (.bx none ls) ρ
 | _=>False
theorem tupOf_bx (a:Addr) (ls:List L) (ρ:Ev) (post:L→Ev→Prop):tupOf (.bx (some a) ls) ρ post=post (.bx none ls) ρ:=(rfl)
end
end L2
namespace L2
open PySem
theorem forL_inv {g:Tg} {b:W Fl} {post:Fl→Ev→Prop}:∀ (xs:List D) (I:Nat→Ev→Prop) (ρ:Ev),I 0 ρ →
  (∀ j x ρ,xs[j]?=some x→I j ρ→∀ Q:Fl→Ev→Prop,(∀ ρ',I (j+1) ρ'→Q .nx ρ')→(∀ ρ',I (j+1) ρ'→Q .ct ρ')→(∀ ρ',post .nx ρ'→Q .bk ρ')→(∀ r ρ',post (.rt r) ρ'→Q (.rt r) ρ')→g x ρ fun ρ1=>b ρ1 Q) →
  (∀ ρ,I xs.length ρ→post .nx ρ)→wForL g b xs ρ post
 | [],I,ρ,h0,_,fin=>fin ρ h0
 | x::xs,I,ρ,h0,step,fin=>by
  unfold wForL
  refine step 0 x ρ rfl h0 _ (fun ρ' h=>?_) (fun ρ' h=>?_) (fun ρ' h=>h) (fun r ρ' h=>h)
  ·
   exact forL_inv xs (fun j=>I (j+1)) ρ' h (fun j y ρ e hi=>step (j+1) y ρ e hi) fin
  ·
   exact forL_inv xs (fun j=>I (j+1)) ρ' h (fun j y ρ e hi=>step (j+1) y ρ e hi) fin
theorem forT_inv {α:Type} {enc:α→D} {g:Tg} {b:W Fl} {post:Fl→Ev→Prop} (as:List α) (I:List α→Ev→Prop) (ρ:Ev) (h0:I [] ρ)
  (step:∀ pre a suf ρ,as=pre++a::suf→I pre ρ→∀ Q:Fl→Ev→Prop,(∀ ρ',I (pre++[a]) ρ'→Q .nx ρ')→(∀ ρ',I (pre++[a]) ρ'→Q .ct ρ')→(∀ ρ',post .nx ρ'→Q .bk ρ')→(∀ r ρ',post (.rt r) ρ'→Q (.rt r) ρ')→g (enc a) ρ fun ρ1=>b ρ1 Q)
  (fin:∀ ρ,I as ρ→post .nx ρ):wForL g b (as.map enc) ρ post:=by
 refine forL_inv _ (fun j ρ=>I (as.take j) ρ) ρ h0 (fun j x ρ e hi Q h1 h2 h3 h4=>?_) fun ρ h=>fin ρ (by simpa using h)
 rw [List.getElem?_map] at e
 cases ea:as[j]? with
 | none=>rw [ea] at e; cases e
 | some a =>
  rw [ea] at e
  cases e
  obtain ⟨hj,ea'⟩:=List.getElem?_eq_some_iff.mp ea
  have es:as.take (j+1)=as.take j++[a]:=by rw [List.take_succ,ea]; rfl
  have ed:as=as.take j++a::as.drop (j+1):=by
   have:=(List.take_append_drop j as).symm
   rw [List.drop_eq_getElem_cons hj,ea'] at this
   exact this
  rw [es] at h1 h2
  exact step _ a _ ρ ed hi Q h1 h2 h3 h4
theorem comp_inv {g:Tg} {ti:W Bool} {te:W L} {k:List D→Ev→Prop}:∀ (xs:List D) (I:Nat→Ev→List D→Prop) (ρ:Ev) (acc:List D),I 0 ρ acc →
  (∀ j x ρ acc,xs[j]?=some x→I j ρ acc→∀ Q:Ev→List D→Prop,(∀ ρ' acc',I (j+1) ρ' acc'→Q ρ' acc')→g x ρ fun ρ1=>ti ρ1 fun b ρ2=>if b=true then te ρ2 fun r ρ3=>toD r fun y=>Q ρ3 (acc++[y]) else Q ρ2 acc) →
  (∀ ρ acc,I xs.length ρ acc→k acc ρ)→compL g ti te xs ρ acc k
 | [],I,ρ,acc,h0,_,fin=>fin ρ acc h0
 | x::xs,I,ρ,acc,h0,step,fin=>by
  unfold compL
  exact step 0 x ρ acc rfl h0 (fun ρ acc=>compL g ti te xs ρ acc k) fun ρ' acc' h=>comp_inv xs (fun j=>I (j+1)) ρ' acc' h (fun j y ρ acc e hi=>step (j+1) y ρ acc e hi) fin
theorem comp_pure {α:Type} {enc:α→D} {h:α→Option D} {caps:Ev} {ti:W Bool} {te:W L} {k:List D→Ev→Prop}:∀ (as:List α) (acc:List D) (l:L),
  (∀ a∈as,∀ Q:Ev→Option D→Prop,Q (.d (enc a)::caps) (h a)→ti (.d (enc a)::caps) fun b ρ2=>if b=true then te ρ2 fun r ρ3=>toD r fun y=>Q ρ3 (some y) else Q ρ2 none) →
  (∀ l',k (acc++as.filterMap h) (l'::caps))→compL (tgName 0) ti te (as.map enc) (l::caps) acc k
 | [],acc,l,_,fin=>by have:=fin l; simpa [compL] using this
 | a::as,acc,l,step,fin=>by
  show compL (tgName 0) ti te (enc a::as.map enc) (l::caps) acc k
  unfold compL
  show ti (.d (enc a)::caps) _
  refine step a List.mem_cons_self (fun ρ o=>match o with | some y=>compL (tgName 0) ti te (as.map enc) ρ (acc++[y]) k | none=>compL (tgName 0) ti te (as.map enc) ρ acc k) ?_
  cases e:h a with
  | none=>exact comp_pure as acc _ (fun b hb=>step b (List.mem_cons_of_mem _ hb)) (by simpa [List.filterMap_cons,e] using fin)
  | some y=>exact comp_pure as (acc++[y]) _ (fun b hb=>step b (List.mem_cons_of_mem _ hb)) (by simpa [List.filterMap_cons,e] using fin)
theorem comp_map {α:Type} {enc:α→D} {h:α→D} {caps:Ev} {te:W L} {k:List D→Ev→Prop} (as:List α) (acc:List D) (l:L)
  (step:∀ a∈as,∀ Q:Ev→D→Prop,Q (.d (enc a)::caps) (h a)→te (.d (enc a)::caps) fun r ρ3=>toD r fun y=>Q ρ3 y)
  (fin:∀ l',k (acc++as.map h) (l'::caps)):compL (tgName 0) wTrue te (as.map enc) (l::caps) acc k:=by
 refine comp_pure (h:=fun a=>some (h a)) as acc l (fun a ha Q q=>?_) (by simpa using fin)
 simp only [wTrue,if_true]
 exact step a ha (fun ρ y=>Q ρ (some y)) q
theorem atI_0 {α:Type} {x:α} {xs:List α}:atI (x::xs) 0=some x:=atI_nat (j:=0) rfl
theorem atI_1 {α:Type} {x y:α} {xs:List α}:atI (x::y::xs) 1=some y:=atI_nat (j:=1) rfl
theorem atI_2 {α:Type} {x y z:α} {xs:List α}:atI (x::y::z::xs) 2=some z:=atI_nat (j:=2) rfl
theorem atI_3 {α:Type} {x y z w:α} {xs:List α}:atI (x::y::z::w::xs) 3=some w:=atI_nat (j:=3) rfl
theorem atI_4 {α:Type} {x y z w v:α} {xs:List α}:atI (x::y::z::w::v::xs) 4=some v:=atI_nat (j:=4) rfl
theorem atI_of {α:Type} {xs:List α} {i:Int} {x:α} (h0:0≤i) (h:xs[i.toNat]?=some x):atI xs i=some x:=by
 have:=atI_nat h
 rwa [Int.toNat_of_nonneg h0] at this
theorem atI_map {α:Type} {f:α→D} {xs:List α} {k:Nat} (h:k < xs.length):atI (xs.map f) (k:Int)=some (f xs[k]):=atI_nat (by rw [List.getElem?_map,List.getElem?_eq_getElem h]; rfl)
theorem ix30:ixN 3 0=some 0:=by decide
theorem ix31:ixN 3 1=some 1:=by decide
theorem ix32:ixN 3 2=some 2:=by decide
theorem rngD_map (n:Nat):rngD 0 n=(List.range n).map fun (i:Nat)=>D.int (i:Int):=by
 unfold rngD
 simp
theorem forR_inv {g:Tg} {b:W Fl} {post:Fl→Ev→Prop} (lo:Int) (n:Nat) (I:Nat→Ev→Prop) (ρ:Ev) (h0:I 0 ρ)
  (step:∀ j ρ,j < n→I j ρ→∀ Q:Fl→Ev→Prop,(∀ ρ',I (j+1) ρ'→Q .nx ρ')→(∀ ρ',I (j+1) ρ'→Q .ct ρ')→(∀ ρ',post .nx ρ'→Q .bk ρ')→(∀ r ρ',post (.rt r) ρ'→Q (.rt r) ρ')→g (.int (lo+(j:Int))) ρ fun ρ1=>b ρ1 Q)
  (fin:∀ ρ,I n ρ→post .nx ρ):wForL g b (rngD lo n) ρ post:=by
 have hl:(rngD lo n).length=n:=by simp [rngD]
 refine forL_inv _ I ρ h0 (fun j x ρ hj hi Q h1 h2 h3 h4=>?_) fun ρ h=>fin ρ (by rwa [hl] at h)
 have hj':j < n:=by rw [← hl]; exact (List.getElem?_eq_some_iff.mp hj).1
 have e:x=.int (lo+(j:Int)):=by
  unfold rngD at hj
  rw [List.getElem?_map,List.getElem?_range hj'] at hj
  exact (Option.some.inj hj).symm
 subst e
 exact step j ρ hj' hi Q h1 h2 h3 h4
theorem forR0_inv {g:Tg} {b:W Fl} {post:Fl→Ev→Prop} (n:Nat) (I:Nat→Ev→Prop) (ρ:Ev) (h0:I 0 ρ)
  (step:∀ j ρ,j < n→I j ρ→∀ Q:Fl→Ev→Prop,(∀ ρ',I (j+1) ρ'→Q .nx ρ')→(∀ ρ',I (j+1) ρ'→Q .ct ρ')→(∀ ρ',post .nx ρ'→Q .bk ρ')→(∀ r ρ',post (.rt r) ρ'→Q (.rt r) ρ')→g (.int (j:Int)) ρ fun ρ1=>b ρ1 Q)
  (fin:∀ ρ,I n ρ→post .nx ρ):wForL g b (rngD 0 n) ρ post :=
 forR_inv 0 n I ρ h0 (fun j ρ hj hi Q h1 h2 h3 h4=>by rw [Int.zero_add]; exact step j ρ hj hi Q h1 h2 h3 h4) fin
theorem bits_small {i:Int} (h:i.natAbs < 2 ^ 200):bitsOk i:=Nat.lt_of_lt_of_le h (Nat.pow_le_pow_right (by decide) (by decide))
theorem fmod_rng (x:Int) {m:Int} (h:0 < m):0≤x.fmod m∧x.fmod m < m:=by
 rw [Int.fmod_eq_emod_of_nonneg _ (by omega)]
 exact ⟨Int.emod_nonneg _ (by omega),Int.emod_lt_of_pos _ h⟩
theorem bits_le {i:Int} {n:Nat} (h0:0≤i) (h:i < 2 ^ n) (hn:n≤1000000):bitsOk i:=by
 have:i.natAbs < 2 ^ n:=by
  have e:((2 ^ n:Nat):Int)=(2:Int) ^ n:=by simp
  omega
 exact Nat.lt_of_lt_of_le this (Nat.pow_le_pow_right (by decide) hn)
theorem ten60:(10:Int) ^ 60 < 2 ^ 200:=by decide
theorem small9000 {i:Int} (h0:0≤i) (h:i≤10 ^ 60):i.natAbs < 2 ^ 9000:=by
 have:i.natAbs < 2 ^ 200:=by
  have:=ten60
  have e:((2 ^ 200:Nat):Int)=(2:Int) ^ 200:=by decide
  omega
 exact Nat.lt_of_lt_of_le this (Nat.pow_le_pow_right (by decide) (by decide))
theorem mul_eq (p q:Rat):Rat.divInt (p.num*q.num) ((p.den:Int)*(q.den:Int))=p*q:=by
 rw [← Rat.divInt_mul_divInt,Rat.num_divInt_den,Rat.num_divInt_den]
theorem RB.of_divInt {t b:Int} {n:Nat} (h:b≠0) (ht:t.natAbs < 2 ^ n) (hb:b.natAbs < 2 ^ n):RB n (Rat.divInt t b):=⟨Nat.lt_of_le_of_lt (num_le h) ht,Nat.lt_of_le_of_lt (den_le h) hb⟩
theorem dens_ne (p q:Rat):((p.den:Int)*(q.den:Int))≠0:=by
 have dp:=den_pos p
 have dq:=den_pos q
 exact Int.mul_ne_zero (by omega) (by omega)
theorem dens_abs (p q:Rat):((p.den:Int)*(q.den:Int)).natAbs=p.den*q.den:=by rw [Int.natAbs_mul,Int.natAbs_natCast,Int.natAbs_natCast]
theorem RB.mul {m n:Nat} {p q:Rat} (hp:RB m p) (hq:RB n q):RB (m+n) (p*q):=by
 rw [← mul_eq]
 exact RB.of_divInt (dens_ne p q) (by rw [Int.natAbs_mul]; exact mul_lt_pow hp.1 hq.1) (by rw [dens_abs]; exact mul_lt_pow hp.2 hq.2)
structure Ask where
 nm:Str
 one:Nat
 other:Nat
 size:Rat
structure Ring where
 rooms:List Rat
 asks:List Ask
def Ring.n (R:Ring):Nat:=R.rooms.length
def askD (a:Ask):D:=.tup [.str a.nm,.int a.one,.int a.other,frD a.size]
def ringD (R:Ring):D:=.tup [.lst (R.rooms.map frD),.lst (R.asks.map askD)]
theorem num_eq (q:Rat):(q.num:Rat)=q*(q.den:Rat):=by
 have h:=Rat.num_divInt_den q
 have hd:(q.den:Rat)≠0:=fun w=>by
  have:=Rat.natCast_pos.mpr q.den_pos
  rw [w] at this
  exact absurd this (by decide)
 rw [Rat.divInt_eq_div] at h
 have e:(((q.den:Nat):Int):Rat)=(q.den:Rat):=rfl
 rw [e] at h
 have e2:q*(q.den:Rat)=(q.num:Rat) / (q.den:Rat)*(q.den:Rat):=by rw [h]
 rw [e2,Rat.div_mul_cancel hd]
theorem num_lt_of {q:Rat} {V:Nat} (h0:0≤q) (hv:q < (V:Rat)):q.num.natAbs < V*q.den:=by
 have hd:(0:Rat) < (q.den:Rat):=Rat.natCast_pos.mpr q.den_pos
 have h1:q*(q.den:Rat) < (V:Rat)*(q.den:Rat):=Rat.mul_lt_mul_of_pos_right hv hd
 rw [← num_eq] at h1
 have h2:((q.num:Int):Rat) < (((V*q.den:Nat):Int):Rat):=by
  have e:(((V*q.den:Nat):Int):Rat)=(V:Rat)*(q.den:Rat):=by
   push_cast
   rfl
  rw [e]; exact h1
 have h3:q.num < ((V*q.den:Nat):Int):=Rat.intCast_lt_intCast.mp h2
 have h4:0≤q.num:=Rat.num_nonneg.mpr h0
 omega
theorem RB.of_val {q:Rat} {d v:Nat} (h0:0≤q) (hd:q.den < 2 ^ d) (hv:q < ((2 ^ v:Nat):Rat)):RB (v+d) q:=by
 refine ⟨Nat.lt_of_lt_of_le (num_lt_of h0 hv) ?_,Nat.lt_of_lt_of_le hd (Nat.pow_le_pow_right (by decide) (by omega))⟩
 rw [Nat.pow_add]
 exact Nat.mul_le_mul_left _ (Nat.le_of_lt hd)
structure AskOk (n:Nat) (a:Ask):Prop where
 one:a.one < n
 other:a.other < n
 ne:a.one≠a.other
 size:0≤a.size
 lt:a.size < ((2 ^ 300:Nat):Rat)
 nm:PyData.strOk a.nm=true
structure Ring.Ok (R:Ring):Prop where
 lo:2≤R.n
 hi:R.n≤12
 few:R.asks.length≤20
 room:∀ q∈R.rooms,0 < q∧RB 60 q
 ask:∀ a∈R.asks,AskOk R.n a
 cd:∃ D:Nat,0 < D∧D < 2 ^ 1240∧∀ a∈R.asks,a.size.den∣D
theorem Ring.Ok.rb {R:Ring} (h:R.Ok) {a:Ask} (ha:a∈R.asks):RB 1540 a.size:=by
 obtain ⟨D,d0,d1,hd⟩:=h.cd
 exact RB.of_val (v:=300) (d:=1240) (h.ask a ha).size (Nat.lt_of_le_of_lt (Nat.le_of_dvd d0 (hd a ha)) d1) (h.ask a ha).lt
theorem okDs_map {α:Type} {n:Nat} {f:α→D}:∀ xs:List α,(∀ x∈xs,okD n (f x)=true)→okDs n (xs.map f)=true
 | [],_=>rfl
 | x::xs,h=>by simp [okDs,h x List.mem_cons_self,okDs_map xs fun y hy=>h y (List.mem_cons_of_mem _ hy)]
theorem okD_fr (n:Nat) (q:Rat):okD (n+1) (frD q)=true:=by cases n <;> simp [frD,okD,okDs]
theorem okD_ask {n:Nat} {a:Ask} (h:AskOk n a):okD 2 (askD a)=true:=by simp [askD,okD,okDs,h.nm,okD_fr]
theorem okD_ring {R:Ring} (h:R.Ok):okD 4 (ringD R)=true:=by
 simp only [ringD,okD,okDs,Bool.and_true,Bool.and_eq_true]
 exact ⟨okDs_map _ fun q _=>okD_fr 1 q,okDs_map _ fun a ha=>okD_ask (h.ask a ha)⟩
theorem shape_ring {R:Ring} (h:R.Ok):shapeD (ringD R):=shape_ok (okD_ring h) (by decide)
def StOk (xs:List D):Prop:=∃ (c sd:Int) (t:Bool),xs=[.int c,.int sd,.bl t]∧0≤sd∧sd < 2147483647
theorem low_pair {t b g:Int} (h:b≠0) (e:g=shareOf t b):D.tup [.int (t.fdiv g),.int (b.fdiv g)]=frD (Rat.divInt t b):=by
 subst e
 rw [low_num h,low_den h]
 rfl
def denP (qs:List Rat):Nat:=(qs.map (·.den)).foldr (·*·) 1
theorem denP_pos:∀ qs:List Rat,0 < denP qs
 | []=>Nat.one_pos
 | a::t=>Nat.mul_pos (den_pos a) (denP_pos t)
def sumQ (qs:List Rat):Rat:=qs.foldl (·+·) 0
theorem foldl_add (qs:List Rat):∀ acc:Rat,qs.foldl (·+·) acc=acc+sumQ qs:=by
 unfold sumQ
 induction qs with
 | nil=>intro acc; simp [Rat.add_zero]
 | cons q qs ih=>intro acc; rw [List.foldl_cons,List.foldl_cons,ih,ih (0+q),Rat.zero_add,Rat.add_assoc]
theorem sumQ_cons (q:Rat) (qs:List Rat):sumQ (q::qs)=q+sumQ qs:=by
 show (q::qs).foldl (·+·) 0=_
 rw [List.foldl_cons,foldl_add,Rat.zero_add]
theorem sumQ_app (as bs:List Rat):sumQ (as++bs)=sumQ as+sumQ bs:=by
 induction as with
 | nil=>rw [List.nil_append]; show _=(0:Rat)+_; rw [Rat.zero_add]
 | cons a as ih=>rw [List.cons_append,sumQ_cons,sumQ_cons,ih,Rat.add_assoc]
theorem opIx_lst {xs:List D} {i:Int} {k:L→Prop}:opIx (.lst xs) (.int i) k=∃ v,atI xs i=some v∧k (.d v):=rfl
theorem opIx_tup {xs:List D} {i:Int} {k:L→Prop}:opIx (.tup xs) (.int i) k=∃ v,atI xs i=some v∧k (.d v):=rfl
theorem opIx_str {z:Str} {i:Int} {k:L→Prop}:opIx (.str z) (.int i) k=(z.length≤sizeLine∧∃ c,atI z.cps.toList i=some c∧k (.d (.str ⟨#[c]⟩))):=rfl
theorem ix_ring0 {R:Ring} {k:L→Prop}:opIx (ringD R) (.int 0) k=k (.d (.lst (R.rooms.map frD))):=by
 show (∃ v,atI _ _=some v∧_)=_
 simp only [atI_0,Option.some.injEq,exists_eq_left']
theorem ix_ring1 {R:Ring} {k:L→Prop}:opIx (ringD R) (.int 1) k=k (.d (.lst (R.asks.map askD))):=by
 show (∃ v,atI _ _=some v∧_)=_
 simp only [atI_1,Option.some.injEq,exists_eq_left']
theorem ix_ask0 {a:Ask} {k:L→Prop}:opIx (askD a) (.int 0) k=k (.d (.str a.nm)):=by
 show (∃ v,atI _ _=some v∧_)=_
 simp only [atI_0,Option.some.injEq,exists_eq_left']
theorem ix_ask1 {a:Ask} {k:L→Prop}:opIx (askD a) (.int 1) k=k (.d (.int a.one)):=by
 show (∃ v,atI _ _=some v∧_)=_
 simp only [atI_1,Option.some.injEq,exists_eq_left']
theorem ix_ask2 {a:Ask} {k:L→Prop}:opIx (askD a) (.int 2) k=k (.d (.int a.other)):=by
 show (∃ v,atI _ _=some v∧_)=_
 simp only [atI_2,Option.some.injEq,exists_eq_left']
theorem ix_ask3 {a:Ask} {k:L→Prop}:opIx (askD a) (.int 3) k=k (.d (frD a.size)):=by
 show (∃ v,atI _ _=some v∧_)=_
 simp only [atI_3,Option.some.injEq,exists_eq_left']
theorem ix_fr0 {q:Rat} {k:L→Prop}:opIx (frD q) (.int 0) k=k (.d (.int q.num)):=by
 show (∃ v,atI _ _=some v∧_)=_
 simp only [atI_0,Option.some.injEq,exists_eq_left']
theorem ix_fr1 {q:Rat} {k:L→Prop}:opIx (frD q) (.int 1) k=k (.d (.int (q.den:Int))):=by
 show (∃ v,atI _ _=some v∧_)=_
 simp only [atI_1,Option.some.injEq,exists_eq_left']
theorem noL_fr (q:Rat):noL (frD q)=true:=by simp [frD,noL,noLs]
theorem noLs_map {α:Type} {f:α→D}:∀ (xs:List α),(∀ x∈xs,noL (f x)=true)→noLs (xs.map f)=true
 | [],_=>rfl
 | x::xs,h=>by simp [noLs,h x List.mem_cons_self,noLs_map xs fun y hy=>h y (List.mem_cons_of_mem _ hy)]
theorem noLs_frs (qs:List Rat):noLs (qs.map frD)=true:=noLs_map _ fun q _=>noL_fr q
theorem noLs_ints {α:Type} (f:α→Int) (xs:List α):noLs (xs.map fun x=>D.int (f x))=true:=noLs_map _ fun _ _=>rfl
theorem rooms_len (R:Ring):R.rooms.length=R.n:=rfl
def wayS (w:Bool):Str:=if w then "on" else "back"
theorem shape_on:shapeD (.str "on"):=shape_ok (n:=0) (by decide +kernel) (by decide)
theorem shape_back:shapeD (.str "back"):=shape_ok (n:=0) (by decide +kernel) (by decide)
theorem shape_way (w:Bool):shapeD (.str (wayS w)):=by
 cases w
 ·
  exact shape_back
 ·
  exact shape_on
theorem way_on (w:Bool):(wayS w="on")=(w=true):=by cases w <;> simp [wayS] <;> decide
theorem way_back (w:Bool):(wayS w="back")=(w=false):=by cases w <;> simp [wayS] <;> decide
theorem tgTup_tup {is:List Nat} {xs:List D} {ρ:Ev} {k:Ev→Prop}:tgTup is (.tup xs) ρ k=tgNames is xs ρ k:=rfl
theorem tgTup_ask {is:List Nat} {a:Ask} {ρ:Ev} {k:Ev→Prop}:tgTup is (askD a) ρ k=tgNames is [.str a.nm,.int a.one,.int a.other,frD a.size] ρ k:=rfl
theorem tgTup_fr {is:List Nat} {q:Rat} {ρ:Ev} {k:Ev→Prop}:tgTup is (frD q) ρ k=tgNames is [.int q.num,.int (q.den:Int)] ρ k:=rfl
theorem itemsOf_lst {xs:List D} {k:List D→Prop}:itemsOf (.lst xs) k=k xs:=rfl
theorem itemsOf_tup {xs:List D} {k:List D→Prop}:itemsOf (.tup xs) k=k xs:=rfl
theorem itemsOf_fr {q:Rat} {k:List D→Prop}:itemsOf (frD q) k=k [.int q.num,.int (q.den:Int)]:=rfl
theorem opLen_lst {xs:List D} {k:L→Prop}:opLen [.lst xs] k=k (.d (.int xs.length)):=rfl
theorem opLen_tup {xs:List D} {k:L→Prop}:opLen [.tup xs] k=k (.d (.int xs.length)):=rfl
theorem opLen_str {x:Str} {k:L→Prop}:opLen [.str x] k=(x.length≤sizeLine∧k (.d (.int x.length))):=rfl
theorem opLen_fr {q:Rat} {k:L→Prop}:opLen [frD q] k=k (.d (.int 2)):=rfl
theorem opLen_ring {R:Ring} {k:L→Prop}:opLen [ringD R] k=k (.d (.int 2)):=rfl
theorem opLen_ask {a:Ask} {k:L→Prop}:opLen [askD a] k=k (.d (.int 4)):=rfl
theorem isTy_tup_fr (q:Rat):isTy "tuple" (frD q)=true:=rfl
theorem isTy_lst_fr (q:Rat):isTy "list" (frD q)=false:=rfl
theorem isTy_int_fr (q:Rat):isTy "int" (frD q)=false:=rfl
theorem isTy_bool_fr (q:Rat):isTy "bool" (frD q)=false:=rfl
theorem isTy_str_fr (q:Rat):isTy "str" (frD q)=false:=rfl
theorem isTy_tup_ring (R:Ring):isTy "tuple" (ringD R)=true:=rfl
def frL (n:Nat) (f:Nat→Rat):List D:=(List.range n).map fun (t:Nat)=>frD (f t)
theorem frL_len (n:Nat) (f:Nat→Rat):(frL n f).length=n:=by simp [frL]
theorem frL_map (n:Nat) (f:Nat→Rat):frL n f=((List.range n).map f).map frD:=by
 unfold frL
 rw [List.map_map]
 rfl
theorem noLs_frL (n:Nat) (f:Nat→Rat):noLs (frL n f)=true:=by rw [frL_map]; exact noLs_frs _
def cutP (c:Nat×Nat):D:=.tup [.int (c.1:Int),.int (c.2:Int)]
theorem ix_cut0 {c:Nat×Nat} {k:L→Prop}:opIx (cutP c) (.int 0) k=k (.d (.int c.1)):=by
 show (∃ v,atI _ _=some v∧_)=_
 simp only [atI_0,Option.some.injEq,exists_eq_left']
theorem ix_cut1 {c:Nat×Nat} {k:L→Prop}:opIx (cutP c) (.int 1) k=k (.d (.int c.2)):=by
 show (∃ v,atI _ _=some v∧_)=_
 simp only [atI_1,Option.some.injEq,exists_eq_left']
theorem okD_cut (n:Nat) (c:Nat×Nat):okD (n+1) (cutP c)=true:=by cases n <;> simp [cutP,okD,okDs]
theorem noL_cut (c:Nat×Nat):noL (cutP c)=true:=by simp [cutP,noL,noLs]
theorem shape_cut (c:Nat×Nat):shapeD (cutP c):=shape_ok (okD_cut 0 c) (by decide)
theorem eqD_cut (c d:Nat×Nat):eqD (cutP c) (cutP d)=decide (c=d):=by
 unfold cutP
 rw [eqD_tup,eqDs_cons,eqDs_cons,eqDs_nil,eqD_int,eqD_int,Bool.and_true,← Bool.decide_and,decide_eq_decide]
 constructor
 ·
  rintro ⟨h1,h2⟩
  exact Prod.ext (by omega) (by omega)
 ·
  rintro rfl; exact ⟨rfl,rfl⟩
def gP (g:Rat×(Nat×Nat)):D:=.tup [frD g.1,cutP g.2]
theorem ix_g0 {g:Rat×(Nat×Nat)} {k:L→Prop}:opIx (gP g) (.int 0) k=k (.d (frD g.1)):=by
 show (∃ v,atI _ _=some v∧_)=_
 simp only [atI_0,Option.some.injEq,exists_eq_left']
theorem ix_g1 {g:Rat×(Nat×Nat)} {k:L→Prop}:opIx (gP g) (.int 1) k=k (.d (cutP g.2)):=by
 show (∃ v,atI _ _=some v∧_)=_
 simp only [atI_1,Option.some.injEq,exists_eq_left']
theorem isTy_non (T:String):isTy T .non=(T == "NoneType"):=rfl
theorem isTy_bl (T:String) (b:Bool):isTy T (.bl b)=(T == "bool" || T == "int"):=rfl
theorem isTy_int (T:String) (i:Int):isTy T (.int i)=(T == "int"):=rfl
theorem isTy_str (T:String) (x:Str):isTy T (.str x)=(T == "str"):=rfl
theorem isTy_tup (T:String) (xs:List D):isTy T (.tup xs)=(T == "tuple"):=rfl
theorem isTy_lst (T:String) (xs:List D):isTy T (.lst xs)=(T == "list"):=rfl
theorem isTy_tup_g (g:Rat×(Nat×Nat)):isTy "tuple" (gP g)=true:=rfl
theorem isTy_tup_cut (c:Nat×Nat):isTy "tuple" (cutP c)=true:=rfl
theorem isTy_tup_ask (a:Ask):isTy "tuple" (askD a)=true:=rfl
theorem opLen_cut {c:Nat×Nat} {k:L→Prop}:opLen [cutP c] k=k (.d (.int 2)):=rfl
theorem opLen_g {c:Rat×(Nat×Nat)} {k:L→Prop}:opLen [gP c] k=k (.d (.int 2)):=rfl
theorem noLs_cuts (cs:List (Nat×Nat)):noLs (cs.map cutP)=true:=noLs_map _ fun c _=>noL_cut c
end L2
namespace L2
open PySem PySem.Builtin.Str
theorem str_ext {x y:Str} (h:x.cps.toList=y.cps.toList):x=y:=by
 cases x; cases y
 exact congrArg Str.mk (Array.toList_inj.mp h)
theorem slice_to {x:Str} {j:Int} (h0:0≤j) (h2:j≤x.length):(Txt.slice x none (some j)).cps.toList=x.cps.toList.take j.toNat:=by
 have:=eq_of_beq (PyProof.Rows.slice_closes_toL h0 h2)
 rw [this]
 simp
theorem slice_from {x:Str} {i:Int} (h0:0≤i) (h2:i≤x.length):(Txt.slice x (some i) none).cps.toList=x.cps.toList.drop i.toNat:=by
 rw [PyProof.Rows.slice_from_eq h0 h2 rfl]
 have e:x.cps.toList.length=x.length:=by simp [Str.length]
 rw [List.take_of_length_le]
 rw [List.length_drop,e]
 omega
theorem cat_list (x y:Str):(x++y).cps.toList=x.cps.toList++y.cps.toList:=by
 show (x.cps++y.cps).toList=_
 simp
theorem len_list (x:Str):x.length=x.cps.toList.length:=by simp [Str.length]
def LetterC (c:Nat):Prop:=97≤c∧c≤122
structure NmOk (z:Str):Prop where
 lo:1≤z.cps.toList.length
 hi:z.cps.toList.length≤8
 let_:∀ c∈z.cps.toList,LetterC c
theorem NmOk.ok {z:Str} (h:NmOk z):PyData.strOk z=true:=by
 unfold PyData.strOk
 rw [← Array.all_toList,List.all_eq_true]
 intro c hc
 have:=h.let_ c hc
 unfold LetterC at this
 simp
 omega
def lettersS:Str:="abcdefghijklmnopqrstuvwxyz"
theorem letters_list:lettersS.cps.toList=(List.range 26).map (·+97):=by decide
theorem letters_at {i:Int} (h0:0≤i) (h1:i < 26):atI lettersS.cps.toList i=some (i.toNat+97):=by
 refine atI_of h0 ?_
 rw [letters_list,List.getElem?_map,List.getElem?_range (by omega)]
 rfl
theorem join_list_:∀ (zs:List Str),(Str.join "" zs).cps.toList=(zs.map fun z=>z.cps.toList).flatten
 | []=>rfl
 | [x]=>by simp [Str.join]
 | x::y::r=>by
  have ih:=join_list_ (y::r)
  show (x++("" : Str)++Str.join "" (y::r)).cps.toList=_
  rw [cat_list,cat_list,ih]
  show x.cps.toList++[]++_=_
  simp
theorem txt_join (zs:List Str):(Txt.join "" zs).cps.toList=(zs.map fun z=>z.cps.toList).flatten:=by
 rw [eq_of_beq (PyProof.Rows.join_closes (sep:="") (sep':="") (ys:=zs) rfl),join_list_]
theorem flat_ones:∀ cs:List Nat,(cs.map fun c=>[c]).flatten=cs
 | []=>rfl
 | c::cs=>by rw [List.map_cons,List.flatten_cons,flat_ones cs]; rfl
theorem join_ones_ (cs:List Nat):(Txt.join "" (cs.map fun c=>(⟨#[c]⟩:Str))).cps.toList=cs:=by
 rw [txt_join,List.map_map]
 exact flat_ones cs
theorem sum_ones:∀ cs:List Nat,((cs.map fun c=>(⟨#[c]⟩:Str)).map (·.length)).sum=cs.length
 | []=>rfl
 | c::cs=>by
  rw [List.map_cons,List.map_cons,List.sum_cons,sum_ones cs,List.length_cons]
  show 1+_=_
  omega
def nameAt (b:Str) (p t k:Nat):Str:=⟨(b.cps.toList.take p++[(t+k) % 26+97]++b.cps.toList.drop (p+1)).toArray⟩
theorem nameAt_ok {b:Str} {p t k:Nat} (h:NmOk b) (hp:p < b.cps.toList.length):NmOk (nameAt b p t k):=by
 have e:(nameAt b p t k).cps.toList=b.cps.toList.take p++[(t+k) % 26+97]++b.cps.toList.drop (p+1):=by simp [nameAt]
 have l:(b.cps.toList.take p++[(t+k) % 26+97]++b.cps.toList.drop (p+1)).length=b.cps.toList.length:=by
  rw [List.length_append,List.length_append,List.length_take,List.length_drop,List.length_singleton]
  omega
 refine ⟨by rw [e,l]; exact h.lo,by rw [e,l]; exact h.hi,fun c hc=>?_⟩
 rw [e] at hc
 rcases List.mem_append.mp hc with hc | hc
 ·
  rcases List.mem_append.mp hc with hc | hc
  ·
   exact h.let_ c (List.mem_of_mem_take hc)
  ·
   rw [List.mem_singleton.mp hc]
   unfold LetterC
   have:=Nat.mod_lt (t+k) (y:=26) (by decide)
   omega
 ·
  exact h.let_ c (List.mem_of_mem_drop hc)
theorem nameAt_inj {b:Str} {p t j k:Nat} (hp:p < b.cps.toList.length) (hj:j < 26) (hk:k < 26) (h:nameAt b p t j=nameAt b p t k):j=k:=by
 have e:b.cps.toList.take p++[(t+j) % 26+97]++b.cps.toList.drop (p+1)=b.cps.toList.take p++[(t+k) % 26+97]++b.cps.toList.drop (p+1):=by
  have:=congrArg (fun z:Str=>z.cps.toList) h
  simpa [nameAt] using this
 rw [List.append_assoc,List.append_assoc] at e
 have e2:=List.append_cancel_left e
 have e3:=(List.cons.inj e2).1
 omega
theorem nodup_map {α β:Type} {f:α→β}:∀ {xs:List α},xs.Nodup→(∀ x∈xs,∀ y∈xs,f x=f y→x=y)→(xs.map f).Nodup
 | [],_,_=>List.nodup_nil
 | x::xs,hn,h=>by
  rw [List.map_cons,List.nodup_cons]
  obtain ⟨h1,h2⟩:=List.nodup_cons.mp hn
  refine ⟨fun hm=>?_,nodup_map h2 fun a ha b hb=>h a (List.mem_cons_of_mem _ ha) b (List.mem_cons_of_mem _ hb)⟩
  obtain ⟨y,hy,e⟩:=List.mem_map.mp hm
  have:=h y (List.mem_cons_of_mem _ hy) x List.mem_cons_self e
  rw [this] at hy
  exact h1 hy
theorem lt_of_RB {q:Rat} (h:RB 60 q):q < ((2 ^ 300:Nat):Rat):=by
 have h1:=num_eq q
 have hd:(1:Rat)≤(q.den:Rat):=by
  have:=q.den_pos
  exact_mod_cast this
 have h2:(q.num:Rat) < ((2 ^ 300:Nat):Rat):=by
  have h3:q.num < ((2 ^ 300:Nat):Int):=by
   have:=Nat.lt_of_lt_of_le h.1 (Nat.pow_le_pow_right (show 0 < 2 by decide) (show 60≤300 by decide))
   omega
  exact Rat.intCast_lt_intCast.mpr h3
 have hV:(0:Rat) < ((2 ^ 300:Nat):Rat):=Rat.natCast_pos.mpr (Nat.pow_pos (by decide))
 generalize ((2 ^ 300:Nat):Rat)=V at *
 refine Rat.not_le.mp fun hq=>?_
 have h4:V*1≤q*(q.den:Rat):=Rat.le_trans (Rat.mul_le_mul_of_nonneg_left hd (Rat.le_of_lt hV)) (Rat.mul_le_mul_of_nonneg_right hq (by grind))
 rw [← h1] at h4
 grind
def denL:List Ask→Nat
 | []=>1
 | a::as=>a.size.den*denL as
theorem denL_pos:∀ as,0 < denL as
 | []=>Nat.one_pos
 | a::as=>Nat.mul_pos a.size.den_pos (denL_pos as)
theorem denL_le:∀ {as:List Ask},(∀ a∈as,RB 60 a.size)→denL as≤2 ^ (60*as.length)
 | [],_=>Nat.le_refl 1
 | a::as,h=>by
  have h1:=(h a List.mem_cons_self).2
  have h2:=denL_le (as:=as) fun p hp=>h p (List.mem_cons_of_mem _ hp)
  show a.size.den*denL as≤2 ^ (60*(as.length+1))
  rw [Nat.mul_add,Nat.mul_one,Nat.pow_add,Nat.mul_comm (2 ^ _)]
  exact Nat.mul_le_mul (Nat.le_of_lt h1) h2
theorem denL_dvd:∀ {as:List Ask} {a:Ask},a∈as→a.size.den∣denL as
 | b::as,a,h=>by
  rcases List.mem_cons.mp h with rfl | h
  ·
   exact Nat.dvd_mul_right _ _
  ·
   exact Nat.dvd_trans (denL_dvd h) (Nat.dvd_mul_left _ _)
theorem cd_of {as:List Ask} (h:∀ a∈as,RB 60 a.size) (hl:as.length≤20):∃ D:Nat,0 < D∧D < 2 ^ 1240∧∀ a∈as,a.size.den∣D:=by
 refine ⟨denL as,denL_pos as,Nat.lt_of_le_of_lt (denL_le h) (Nat.pow_lt_pow_right (by decide) (by omega)),fun a ha=>denL_dvd ha⟩
end L2
namespace L2
open PySem
end L2
namespace L2
open PySem
theorem RB.sum {b:Nat}:∀ (qs:List Rat),(∀ q∈qs,RB b q)→RB (1+(b+1)*qs.length) (sumQ qs)
 | [],_=>RB.mono (m:=1) ⟨by decide,by decide⟩ (by omega)
 | q::qs,h=>by
  have ih:=RB.sum qs fun z hz=>h z (List.mem_cons_of_mem _ hz)
  rw [sumQ_cons]
  refine ((h q List.mem_cons_self).add ih).mono ?_
  rw [List.length_cons,Nat.mul_succ]
  omega
theorem denP_le {b:Nat}:∀ (qs:List Rat),(∀ q∈qs,RB b q)→denP qs≤2 ^ (b*qs.length)
 | [],_=>Nat.le_refl 1
 | q::qs,h=>by
  have ih:=denP_le qs fun z hz=>h z (List.mem_cons_of_mem _ hz)
  show q.den*denP qs≤_
  refine Nat.le_trans (Nat.mul_le_mul (Nat.le_of_lt (h q List.mem_cons_self).2) ih) ?_
  rw [← Nat.pow_add,List.length_cons,Nat.mul_succ]
  exact Nat.pow_le_pow_right (by decide) (by omega)
theorem sumQ_nil:sumQ []=0:=rfl
theorem sumQ_append1 (qs:List Rat) (q:Rat):sumQ (qs++[q])=sumQ qs+q:=by
 rw [sumQ_app,sumQ_cons,sumQ_nil,Rat.add_zero]
end L2
namespace L2
open PySem
theorem sumQ_nonneg {α:Type} (f:α→Rat):∀ xs:List α,(∀ x∈xs,0≤f x)→0≤sumQ (xs.map f)
 | [],_=>by simp [sumQ_nil]
 | x::xs,h=>by
  have ih:=sumQ_nonneg f xs fun y hy=>h y (List.mem_cons_of_mem _ hy)
  have h1:=h x List.mem_cons_self
  rw [List.map_cons,sumQ_cons]
  grind
theorem atI_neg1 {α:Type} {xs:List α} {x:α} (h:xs[xs.length - 1]?=some x):atI xs (-1)=some x:=by
 have hl:xs.length - 1 < xs.length:=(List.getElem?_eq_some_iff.mp h).1
 unfold atI ixN
 rw [if_neg (by decide),if_pos (by omega)]
 show xs[_]?=_
 have:(-1+(xs.length:Int)).toNat=xs.length - 1:=by omega
 rw [this]
 exact h
end L2
namespace L2
open PySem
def within (c:Nat×Nat) (p:Nat):Bool:=decide (c.1 < p∧p≤c.2)
def apart (c:Nat×Nat) (i j:Nat):Bool:=within c i != within c j
def acrossQ (as:List Ask) (c:Nat×Nat):Rat:=sumQ ((as.filter fun a=>apart c a.one a.other).map (·.size))
theorem den_of_int {q:Rat} {D:Nat} {z:Int} (h0:0 < D) (e:q*(D:Rat)=(z:Rat)):q.den∣D:=by
 have hQ:(D:Rat)≠0:=fun w=>by
  have:=Rat.natCast_pos.mpr h0
  rw [w] at this
  exact absurd this (by decide)
 have e2:q=Rat.divInt z (D:Int):=by
  rw [Rat.divInt_eq_div]
  have:((D:Int):Rat)=(D:Rat):=rfl
  rw [this,← e,Rat.mul_div_cancel hQ]
 rw [e2]
 have:=Rat.den_divInt z (D:Int)
 rw [this,if_neg (by omega),Int.natAbs_natCast]
 exact Nat.div_dvd_of_dvd (Nat.gcd_dvd_left _ _)
theorem int_of_den {q:Rat} {D:Nat} (h:q.den∣D):∃ z:Int,q*(D:Rat)=(z:Rat):=by
 obtain ⟨m,rfl⟩:=h
 refine ⟨q.num*(m:Int),?_⟩
 rw [Rat.intCast_mul,num_eq]
 have e1:((m:Int):Rat)=(m:Rat):=rfl
 have e2:((q.den*m:Nat):Rat)=(q.den:Rat)*(m:Rat):=Rat.natCast_mul _ _
 rw [e1,e2,Rat.mul_assoc]
theorem den_add {p q:Rat} {D:Nat} (h0:0 < D) (hp:p.den∣D) (hq:q.den∣D):(p+q).den∣D:=by
 obtain ⟨a,ha⟩:=int_of_den hp
 obtain ⟨b,hb⟩:=int_of_den hq
 exact den_of_int (z:=a+b) h0 (by rw [Rat.add_mul,ha,hb,Rat.intCast_add])
theorem den_sum {D:Nat} (h0:0 < D):∀ qs:List Rat,(∀ q∈qs,q.den∣D)→(sumQ qs).den∣D
 | [],_=>by show (0:Rat).den∣D; exact Nat.one_dvd _
 | q::qs,h=>by
  rw [sumQ_cons]
  exact den_add h0 (h q List.mem_cons_self) (den_sum h0 qs fun p hp=>h p (List.mem_cons_of_mem _ hp))
theorem val_sum {V:Rat} (hV:0≤V):∀ qs:List Rat,(∀ q∈qs,q < V)→sumQ qs≤(qs.length:Rat)*V
 | [],_=>by show (0:Rat)≤_; rw [List.length_nil]; show (0:Rat)≤0*V; grind
 | q::qs,h=>by
  rw [sumQ_cons,List.length_cons]
  have h1:=h q List.mem_cons_self
  have h2:=val_sum hV qs fun p hp=>h p (List.mem_cons_of_mem _ hp)
  have e:((qs.length+1:Nat):Rat)=(qs.length:Rat)+1:=Rat.natCast_add _ _
  rw [e]
  grind
def SumOk (qs:List Rat):Prop:=denP qs < 2 ^ 9000∨∃ D:Nat,0 < D∧D < 2 ^ 4400∧∀ q∈qs,q.den∣D
theorem across_RBs {R:Ring} (hR:R.Ok) {as:List Ask} (hs:∀ a∈as,a∈R.asks) (hl:as.length≤20) (c:Nat×Nat):RB 1546 (acrossQ as c):=by
 obtain ⟨D,d0,d1,hd⟩:=hR.cd
 have hm:∀ q∈(as.filter (fun a=>apart c a.one a.other)).map (·.size),∃ a∈R.asks,q=a.size:=fun q hq=>by
  obtain ⟨a,ha,rfl⟩:=List.mem_map.mp hq
  exact ⟨a,hs a (List.mem_filter.mp ha).1,rfl⟩
 have h1:(acrossQ as c).den∣D:=den_sum d0 _ fun q hq=>by
  obtain ⟨a,ha,rfl⟩:=hm q hq
  exact hd a ha
 have h0:0≤acrossQ as c:=sumQ_nonneg _ _ fun a ha=>(hR.ask a (hs a (List.mem_filter.mp ha).1)).size
 have hV:(0:Rat) < ((2 ^ 300:Nat):Rat):=Rat.natCast_pos.mpr (Nat.pow_pos (by decide))
 have h2:acrossQ as c≤_:=val_sum (Rat.le_of_lt hV) _ fun q hq=>by
  obtain ⟨a,ha,rfl⟩:=hm q hq
  exact (hR.ask a ha).lt
 have h3:((as.filter (fun a=>apart c a.one a.other)).map (·.size)).length≤20:=by
  rw [List.length_map]
  have:=List.length_filter_le (fun a:Ask=>apart c a.one a.other) as
  omega
 have h4:acrossQ as c < ((2 ^ 306:Nat):Rat):=by
  have e:((2 ^ 306:Nat):Rat)=64*((2 ^ 300:Nat):Rat):=by
   rw [show (2 ^ 306:Nat)=64*2 ^ 300 by rw [show 306=6+300 from rfl,Nat.pow_add],Rat.natCast_mul]
   rfl
  rw [e]
  generalize ((2 ^ 300:Nat):Rat)=V at *
  generalize ((as.filter (fun a=>apart c a.one a.other)).map (·.size)).length=m at *
  have h5:(m:Rat)*V≤20*V:=Rat.mul_le_mul_of_nonneg_right (by exact_mod_cast h3) (Rat.le_of_lt hV)
  grind
 exact (RB.of_val (v:=306) (d:=1240) h0 (Nat.lt_of_le_of_lt (Nat.le_of_dvd d0 h1) d1) h4).mono (by decide)
theorem across_RB {R:Ring} (hR:R.Ok) (c:Nat×Nat):RB 1546 (acrossQ R.asks c):=across_RBs hR (fun _ h=>h) hR.few c
end L2
namespace My
open PySem L2
mutual
def widD:D→Nat
 | .tup xs=>max xs.length (widDs xs)
 | .lst xs=>max xs.length (widDs xs)
 | _=>0
def widDs:List D→Nat
 | []=>0
 | x::xs=>max (widD x) (widDs xs)
end
theorem size99 {n:Nat} (h:n≤99):n≤sizeLine:=Nat.le_trans h (by decide)
structure SmD (n:Nat) (d:D):Prop where
 dep:depD d < n
 wid:widD d≤99
theorem SmD.mono {n m:Nat} {d:D} (h:SmD n d) (hm:n≤m):SmD m d:=⟨Nat.lt_of_lt_of_le h.dep hm,h.wid⟩
end My
namespace My
open PySem L2
def reachB (i o:Nat×Nat) (x y:Nat):Bool:=if within i x then !within o y else within i y && !within o x
def extraQ (as:List Ask) (g h p q:Nat):Rat:=sumQ ((as.filter fun a=>reachB (h,p) (g,q) a.one a.other).map (·.size))
def rowL (R:Ring) (g:Nat):List D:=(List.range R.n).map fun h=>frD (acrossQ R.asks (min g h,max g h))
theorem sum_filter (f:Ask→Bool) (a:Ask) (as:List Ask):sumQ (((a::as).filter f).map (·.size))=(if f a then a.size else 0)+sumQ ((as.filter f).map (·.size)):=by
 rw [List.filter_cons]
 cases f a
 ·
  simp only [Bool.false_eq_true,if_false]
  rw [Rat.zero_add]
 ·
  simp only [if_true,List.map_cons]
  rw [sumQ_cons]
theorem bits_id:∀ a b c a' b' c':Bool,(a && b)=false→(b && c)=false→(a && c)=false→(a' && b')=false→(b' && c')=false→(a' && c')=false →
  (((a || b) != (a' || b')).toNat+((b || c) != (b' || c')).toNat=(a != a').toNat+(c != c').toNat+2*(if b then !(a' || b' || c') else b' && !(a || b || c)).toNat):=by decide
theorem in_parts {g h p q:Nat} (h1:g≤h) (h2:h≤p) (h3:p≤q) (x:Nat):within (g,p) x=(within (g,h) x || within (h,p) x)∧within (h,q) x=(within (h,p) x || within (p,q) x)∧within (g,q) x=(within (g,h) x || within (h,p) x || within (p,q) x) ∧
  (within (g,h) x && within (h,p) x)=false∧(within (h,p) x && within (p,q) x)=false∧(within (g,h) x && within (p,q) x)=false:=by
 unfold within
 simp only [← Bool.decide_or,← Bool.decide_and,decide_eq_decide,decide_eq_false_iff_not]
 omega
theorem one_id {g h p q:Nat} (h1:g≤h) (h2:h≤p) (h3:p≤q) (x y:Nat):(apart (g,p) x y).toNat+(apart (h,q) x y).toNat=(apart (g,h) x y).toNat+(apart (p,q) x y).toNat+2*(reachB (h,p) (g,q) x y).toNat:=by
 obtain ⟨a1,a2,a3,a4,a5,a6⟩:=in_parts h1 h2 h3 x
 obtain ⟨b1,b2,b3,b4,b5,b6⟩:=in_parts h1 h2 h3 y
 unfold apart reachB
 rw [a1,a2,a3,b1,b2,b3]
 exact bits_id _ _ _ _ _ _ a4 a5 a6 b4 b5 b6
theorem ite_nat (b:Bool) (s:Rat):(if b then s else 0)=((b.toNat:Nat):Rat)*s:=by
 cases b
 ·
  simp only [Bool.false_eq_true,if_false,Bool.toNat_false]
  rw [show ((0:Nat):Rat)=0 from rfl,Rat.zero_mul]
 ·
  simp only [if_true,Bool.toNat_true]
  rw [show ((1:Nat):Rat)=1 from rfl,Rat.one_mul]
theorem extra_id {g h p q:Nat} (h1:g≤h) (h2:h≤p) (h3:p≤q):∀ as:List Ask,acrossQ as (g,p)+acrossQ as (h,q)=acrossQ as (g,h)+acrossQ as (p,q)+2*extraQ as g h p q
 | []=>by unfold acrossQ extraQ; simp only [List.filter_nil,List.map_nil,sumQ_nil]; grind
 | a::as=>by
  have ih:=extra_id h1 h2 h3 as
  have e:=one_id h1 h2 h3 a.one a.other
  unfold acrossQ extraQ at ih ⊢
  rw [sum_filter,sum_filter,sum_filter,sum_filter,sum_filter,ite_nat,ite_nat,ite_nat,ite_nat,ite_nat]
  have e2:((((apart (g,p) a.one a.other).toNat+(apart (h,q) a.one a.other).toNat:Nat)):Rat)=(((apart (g,h) a.one a.other).toNat+(apart (p,q) a.one a.other).toNat+2*(reachB (h,p) (g,q) a.one a.other).toNat:Nat):Rat):=by rw [e]
  push_cast at e2
  generalize ((apart (g,p) a.one a.other).toNat:Rat)=z1 at *
  generalize ((apart (h,q) a.one a.other).toNat:Rat)=z2 at *
  generalize ((apart (g,h) a.one a.other).toNat:Rat)=z3 at *
  generalize ((apart (p,q) a.one a.other).toNat:Rat)=z4 at *
  generalize ((reachB (h,p) (g,q) a.one a.other).toNat:Rat)=z5 at *
  have e3:z1*a.size+z2*a.size=z3*a.size+z4*a.size+2*(z5*a.size):=by
   have:(z1+z2)*a.size=(z3+z4+2*z5)*a.size:=by rw [e2]
   grind
  grind
theorem reach_or {g h p q:Nat} (h1:g≤h) (h3:p≤q) (x y:Nat):((within (h,p) x && !within (g,q) y) || (within (h,p) y && !within (g,q) x))=reachB (h,p) (g,q) x y:=by
 unfold reachB
 have e:within (h,p) x=true→within (g,q) x=true:=by
  unfold within
  simp only [decide_eq_true_eq]
  omega
 cases b:within (h,p) x
 ·
  simp
 ·
  rw [e b]
  simp
theorem compB_own {α:Type} {enc:α→D} {f:α→List D} {caps:Ev} {te:W L} {k:List L→Ev→Prop}:∀ (xs:List α) (acc:List L) (l:L),
  (∀ x∈xs,∀ Q:Ev→L→Prop,(∀ a,Q (.d (enc x)::caps) (.own a (f x)))→te (.d (enc x)::caps) fun r ρ3=>Q ρ3 r) →
  (∀ l' (as:List Addr),as.length=xs.length→k (acc++List.zipWith (fun b x=>L.own b (f x)) as xs) (l'::caps))→compLB (tgName 0) wTrue te (xs.map enc) (l::caps) acc k
 | [],acc,l,_,fin=>by
  have:=fin l [] rfl
  rw [List.zipWith_nil_left,List.append_nil] at this
  exact this
 | x::xs,acc,l,step,fin=>by
  show compLB (tgName 0) wTrue te (enc x::xs.map enc) (l::caps) acc k
  unfold compLB
  show te (.d (enc x)::caps) _
  refine step x List.mem_cons_self (fun ρ r=>compLB (tgName 0) wTrue te (xs.map enc) ρ (acc++[r]) k) fun a=>?_
  refine compB_own xs (acc++[.own a (f x)]) _ (fun y hy=>step y (List.mem_cons_of_mem _ hy)) fun l' as hl=>?_
  rw [List.append_assoc]
  exact fin l' (a::as) (by simp [hl])
def boxL (n:Nat) (ad:Nat→Addr) (f:Nat→List D):List L:=(List.range n).map fun g=>L.own (ad g) (f g)
theorem zip_box {n:Nat} {f:Nat→List D} {as:List Addr} (h:as.length=n):List.zipWith (fun b x=>L.own b (f x)) as (List.range n)=boxL n (fun g=>as.getD g 0) f:=by
 unfold boxL
 refine List.ext_getElem (by simp [h]) fun j h1 h2=>?_
 have hj:j < as.length:=by simp at h2; omega
 rw [List.getElem_zipWith,List.getElem_map,List.getElem_range]
 show L.own as[j] (f j)=L.own (as.getD j 0) (f j)
 rw [List.getD_eq_getElem?_getD,List.getElem?_eq_getElem hj]
 rfl
theorem box_era (ad:Nat→Addr) (f:Nat→List D):∀ (xs:List Nat) (k:List D→Prop),k (xs.map fun g=>D.lst (f g))→eraK (xs.map fun g=>L.own (ad g) (f g)) k
 | [],k,h=>by rw [List.map_nil,eraK_nil]; exact h
 | x::xs,k,h=>by
  rw [List.map_cons,eraK_cons]
  exact box_era ad f xs _ h
theorem box_toD {n:Nat} {ad:Nat→Addr} {f:Nat→List D} {a:Addr} {k:D→Prop} (h:k (.lst ((List.range n).map fun g=>D.lst (f g)))):toDB (some a) (boxL n ad f) k:=by
 rw [toDB_o]
 exact box_era ad f _ _ h
end My
set_option exponentiation.threshold 1000
namespace Hd
open PySem PySem.W PyProof.Rows
abbrev pr:Program:=PySem.Challenge.pw_ringloads_k19_whole_tables_and_extras
def top (i:Nat):Stmt:=pr.main.body.getD i (.Pass ⟨0,0,0,0⟩)
def inCls (st:Stmt) (j:Nat):Stmt:=match st with
 | .ClassDef _ _ _ b ..=>b.getD j (.Pass ⟨0,0,0,0⟩)
 | _=>.Pass ⟨0,0,0,0⟩
def dName (s:Stmt):Str:=match s with
 | .FunctionDef n ..=>n
 | _=>""
def dArgs (s:Stmt):Arguments:=match s with
 | .FunctionDef _ a _ _ _ _ _ _ _ _=>a
 | _=>{ posonlyargs:=[],args:=[],vararg:=none,kwonlyargs:=[],kw_defaults:=[],kwarg:=none,defaults:=[] }
def dBody (s:Stmt):List Stmt:=match s with
 | .FunctionDef _ _ b _ _ _ _ _ _ _=>b
 | _=>[]
def dScope (s:Stmt):Scope:=match s with
 | .FunctionDef _ _ _ _ _ _ sc _ _ _=>sc
 | _=>{ kind:=.function,names:=[],isGenerator:=false,isCoroutine:=false }
def dPos (s:Stmt):Pos:=match s with
 | .FunctionDef _ _ _ _ _ _ _ _ _ p=>p
 | _=>⟨0,0,0,0⟩
def fdOf (st:Stmt) (q:Str) (g:Addr) (md cd:Value):FuncData:={ name:=dName st,qualname:=q,params:=dArgs st,body:=.stmts (dBody st),scope:=dScope st,globals:=g,closure:=[],defaults:=.none,kwdefaults:=.none,doc:=.none,pyModule:=md,annotations:=none,code:=cd,closureTuple:=.none,builtins:=0 }
noncomputable def kh (P:Params) (x:Str):Int:=PySem.PyData.keyHash P x
def tupO (vs:List Value):Obj:=⟨.type "tuple",none,.seq vs.toArray 0,#[]⟩
def fldO (vs:List Value):Obj:=⟨.none,none,.fields vs.toArray,#[]⟩
def numb:Nat→List Str→List Value
 | _,[]=>[]
 | t,x::r=>.str x t::numb (t+1) r
def codeO (st:Stmt) (a t:Nat) (v1 v2:Value) (tm u:Nat):Obj:=⟨.type "code",none,.fields #[.str (dName st) t,.str (dName st) (t+1),.str "/claim/cut.py" (t+2),.int (dPos st).line 0,.int (dArgs st).args.length 0,.int 0 0,.int 0 0,.int 3 0,.ref a,.bool true,.int 181 0,.ref (a+1),.none,v1,v2,.ref tm,.int u 0,.int (dPos st).line 0,.str "/claim/cut.py" (u+1)],#[]⟩
def fnO (st:Stmt) (md:Value) (cd:Nat):Obj:=⟨.type "function",none,.func (fdOf st (dName st) 3 md (.ref cd)),#[]⟩
def tmO (st:Stmt):Obj:=⟨.none,none,.func (fdOf st (dName st) 0 .none .none),#[]⟩
def fdef7 (st:Stmt) (a t:Nat) (vs:List Str) (md:Value):List Obj:=[tupO [],fldO [],tupO (numb (t+3) vs),tupO [],tmO st,codeO st a t (.ref (a+2)) (.ref (a+3)) (a+4) (t+3+vs.length),fnO st md (a+5)]
def fdef5 (st:Stmt) (a t:Nat) (md:Value):List Obj:=[tupO [],fldO [],tmO st,codeO st a t .none .none (a+2) (t+3),fnO st md (a+3)]
noncomputable def mainD (P:Params) (nm:Value) (es:List DictEntry) (n:Nat):Obj:=⟨.type "dict",none,.dict (([⟨kh P "__name__",.str "__name__" 165,nm⟩,⟨kh P "__doc__",.str "__doc__" 166,.none⟩,⟨kh P "__package__",.str "__package__" 167,.none⟩,⟨kh P "__loader__",.str "__loader__" 168,.builtin "__main__.__loader__#opaque"⟩,⟨kh P "__spec__",.str "__spec__" 169,.none⟩,⟨kh P "__annotations__",.str "__annotations__" 170,.ref 6⟩,⟨kh P "__builtins__",.str "__builtins__" 171,.ref 4⟩,⟨kh P "__file__",.str "__file__" 173,.str "/claim/cut.py" 172⟩,⟨kh P "__cached__",.str "__cached__" 174,.none⟩]:List DictEntry)++es).toArray n,#[]⟩
def modO:Obj:=⟨.type "code",none,.fields #[.str "<module>" 182,.str "<module>" 183,.str "/claim/cut.py" 184,.int 1 0,.int 0 0,.int 0 0,.int 0 0,.int 0 0,.ref 11,.bool false,.int 181 0,.ref 12,.none,.none,.none,.none,.int 185 0,.int 1 0,.str "/claim/cut.py" 186],#[]⟩
def frmO:Obj:=⟨.type "frame",none,.plain,#[some (.ref 13),some (.ref 3),some (.ref 3),none,some (.str "__main__" 164),none,some (.ref 0)]⟩
noncomputable def bootL (P:Params):List Obj:=[boot_o_0 P,boot_o_1 P,boot_o_2 P,boot_o_3 P,boot_o_4 P,boot_o_5 P,boot_o_6 P,boot_o_7 P,boot_o_8 P,boot_o_9 P,boot_o_10 P,tupO [],fldO [],modO,frmO]
def life0:Life:=⟨[],[],[],0,[],[],false,#[],[],0,false,false,false,0,[2000,10,10],false,0,true,[],[],0,false⟩
noncomputable def lookO (l:List (Nat×Obj)) (b:Nat):Option Obj:=@List.rec (Nat×Obj) (fun _=>Option Obj) none (fun x _ ih=>bif Nat.beq x.1 b then some x.2 else ih) l
noncomputable def obBase (P:Params) (ob:Params→Nat→Obj) (b:Nat):Obj:=bif b.blt 15 then (bootL P).getD b default else ob P b
noncomputable def memN (l:List Nat) (b:Nat):Bool:=@List.rec Nat (fun _=>Bool) false (fun x _ ih=>@Bool.rec (fun _=>Bool) ih true (Nat.beq x b)) l
noncomputable def obAt (ks:List Nat) (P:Params) (ov:List (Nat×Obj)) (ob:Params→Nat→Obj) (b j:Nat):Obj:=@Bool.rec (fun _=>Obj) (obBase P ob b) ((lookO ov b).getD default) (memN ks b)
noncomputable def L0 (n:Nat) (f:Nat→Obj) (a b j:Nat):BT:=.nil
noncomputable def L1 (n:Nat) (f:Nat→Obj) (a b j:Nat):BT:=@Bool.rec (fun _=>BT) .nil (.node (f b) (L0 n f (2*a) (a+b) j) (L0 n f (2*a) (2*a+b) j)) (b.blt n)
noncomputable def L2 (n:Nat) (f:Nat→Obj) (a b j:Nat):BT:=@Bool.rec (fun _=>BT) .nil (.node (f b) (L1 n f (2*a) (a+b) j) (L1 n f (2*a) (2*a+b) j)) (b.blt n)
noncomputable def L3 (n:Nat) (f:Nat→Obj) (a b j:Nat):BT:=@Bool.rec (fun _=>BT) .nil (.node (f b) (L2 n f (2*a) (a+b) j) (L2 n f (2*a) (2*a+b) j)) (b.blt n)
noncomputable def L4 (n:Nat) (f:Nat→Obj) (a b j:Nat):BT:=@Bool.rec (fun _=>BT) .nil (.node (f b) (L3 n f (2*a) (a+b) j) (L3 n f (2*a) (2*a+b) j)) (b.blt n)
noncomputable def L5 (n:Nat) (f:Nat→Obj) (a b j:Nat):BT:=@Bool.rec (fun _=>BT) .nil (.node (f b) (L4 n f (2*a) (a+b) j) (L4 n f (2*a) (2*a+b) j)) (b.blt n)
noncomputable def L6 (n:Nat) (f:Nat→Obj) (a b j:Nat):BT:=@Bool.rec (fun _=>BT) .nil (.node (f b) (L5 n f (2*a) (a+b) j) (L5 n f (2*a) (2*a+b) j)) (b.blt n)
noncomputable def L7 (n:Nat) (f:Nat→Obj) (a b j:Nat):BT:=@Bool.rec (fun _=>BT) .nil (.node (f b) (L6 n f (2*a) (a+b) j) (L6 n f (2*a) (2*a+b) j)) (b.blt n)
noncomputable def L8 (n:Nat) (f:Nat→Obj) (a b j:Nat):BT:=@Bool.rec (fun _=>BT) .nil (.node (f b) (L7 n f (2*a) (a+b) j) (L7 n f (2*a) (2*a+b) j)) (b.blt n)
noncomputable def L9 (n:Nat) (f:Nat→Obj) (a b j:Nat):BT:=@Bool.rec (fun _=>BT) .nil (.node (f b) (L8 n f (2*a) (a+b) j) (L8 n f (2*a) (2*a+b) j)) (b.blt n)
noncomputable def L10 (n:Nat) (f:Nat→Obj) (a b j:Nat):BT:=@Bool.rec (fun _=>BT) .nil (.node (f b) (L9 n f (2*a) (a+b) j) (L9 n f (2*a) (2*a+b) j)) (b.blt n)
noncomputable def L11 (n:Nat) (f:Nat→Obj) (a b j:Nat):BT:=@Bool.rec (fun _=>BT) .nil (.node (f b) (L10 n f (2*a) (a+b) j) (L10 n f (2*a) (2*a+b) j)) (b.blt n)
noncomputable def L12 (n:Nat) (f:Nat→Obj) (a b j:Nat):BT:=@Bool.rec (fun _=>BT) .nil (.node (f b) (L11 n f (2*a) (a+b) j) (L11 n f (2*a) (2*a+b) j)) (b.blt n)
theorem seg_by {p:Program} {w:World} {m:Nat} {ann:Option Value} {b n:Nat} {s:SharedT} {t:Thread} {r:Option (Flow×SharedT×Code×Pos)} (h:Fast.tw10110043849684766642 Fast.tw14364793385576792824 p w m ann b n s t=r):segRunT treeTable p w m ann b n s t=r:=by
 rw [Fast.te10110043849684766642,Fast.te14364793385576792824]; exact h
theorem top_by {p:Program} {w:World} {m:Nat} {ann:Option Value} {n:Nat} {s:Shared} {t:Thread} {r:Option Shared} (h:Fast.tw14082659384304107361 Fast.tw14364793385576792824 p w m ann n s t=r):topRun treeTable p w m ann n s t=r:=by
 rw [Fast.te14082659384304107361,Fast.te14364793385576792824]; exact h
theorem den_tw:denote treeTable=Fast.tw11892475500146522536 Fast.tw14364793385576792824:=by rw [← Fast.te11892475500146522536,← Fast.te14364793385576792824]
theorem go_by {p:Program} {w:World} {m:Nat} {ann:Option Value} {n:Nat} {s:Shared} {t:Thread} {r:Option (Shared×Thread)} (h:Fast.tw15667345088766844465 Fast.tw14364793385576792824 p w m ann n s t=r):topGo treeTable p w m ann n s t=r:=by
 rw [Fast.te15667345088766844465,Fast.te14364793385576792824]; exact h
theorem rest_eq {b b':List Stmt} (e:b=b') {tb:String→Option Builtin} {p:Program} {w:World} {m:Nat} {ann:Option Value} {n:Nat} {s:Shared} {env:Env} {c:Code} {ps:Pos} {B:List Frame} {r:Option Shared} (h:topRun tb p w m ann n s (restOf b' env c ps B)=r):topRun tb p w m ann n s (restOf b env c ps B)=r:=by rw [e]; exact h
noncomputable def f1 (P:Params):List Obj:=fdef7 (top 1) 15 189 ["one","other","rest"] (.str "ringloads.divisors" 187)
noncomputable def f3 (P:Params):List Obj:=[(Obj.mk (.type "tuple") none (.seq #[(.int 0 200),(.int 1 201)] 0) #[])]
noncomputable def f4 (P:Params):List Obj:=fdef7 (top 4) 23 203 ["top","bottom","shared"] (.str "ringloads.ratios" 198)
noncomputable def f5 (P:Params):List Obj:=fdef7 (top 5) 30 212 ["one","other"] (.str "ringloads.ratios" 198)
noncomputable def f6 (P:Params):List Obj:=fdef7 (top 6) 37 220 ["some","whole","one"] (.str "ringloads.ratios" 198)
noncomputable def f8 (P:Params):List Obj:=fdef7 (top 8) 44 231 ["cut","place"] (.str "ringloads.cuts" 229)
noncomputable def f9 (P:Params):List Obj:=fdef7 (top 9) 51 239 ["cut","one","other"] (.str "ringloads.cuts" 229)
noncomputable def f10 (P:Params):List Obj:=fdef5 (top 10) 58 248 (.str "ringloads.cuts" 229)
noncomputable def f12 (P:Params):List Obj:=fdef5 (top 12) 63 256 (.str "ringloads.tables" 254)
noncomputable def f13 (P:Params):List Obj:=fdef5 (top 13) 68 262 (.str "ringloads.tables" 254)
noncomputable def f14 (P:Params):List Obj:=fdef5 (top 14) 73 268 (.str "ringloads.tables" 254)
noncomputable def f15 (P:Params):List Obj:=fdef7 (top 15) 78 274 ["inner","outer","one","other"] (.str "ringloads.tables" 254)
noncomputable def f17 (P:Params):List Obj:=fdef7 (top 17) 85 286 ["_law_script","_law_k","_law_cell"] (.str "law_ringloads_k19_whole_tables_and_extras" 284)
noncomputable def f18 (P:Params):List Obj:=fdef7 (top 18) 92 295 ["_law_state","_law_many","_law_digit","_law_drawn","_law_turn"] (.str "law_ringloads_k19_whole_tables_and_extras" 284)
noncomputable def f19 (P:Params):List Obj:=fdef7 (top 19) 99 306 ["_law_top","_law_bottom","_law_one","_law_share"] (.str "law_ringloads_k19_whole_tables_and_extras" 284)
noncomputable def f20 (P:Params):List Obj:=fdef7 (top 20) 106 316 ["_law_state","_law_least","_law_kind","_law_bottom","_law_top"] (.str "law_ringloads_k19_whole_tables_and_extras" 284)
noncomputable def f21 (P:Params):List Obj:=fdef5 (top 21) 113 327 (.str "law_ringloads_k19_whole_tables_and_extras" 284)
noncomputable def f22 (P:Params):List Obj:=fdef7 (top 22) 118 333 ["_law_state","_law_ties","_law_kind","_law_alike","_law_one","_law_rooms_here","_law_more"] (.str "law_ringloads_k19_whole_tables_and_extras" 284)
noncomputable def f23 (P:Params):List Obj:=fdef7 (top 23) 125 346 ["_law_state","_law_shape","_law_places","_law_k","_law_one","_law_other"] (.str "law_ringloads_k19_whole_tables_and_extras" 284)
noncomputable def f24 (P:Params):List Obj:=fdef7 (top 24) 132 358 ["_law_script","_law_at","_law_most","_law_count","_law_state","_law_places","_law_many","_law_kinds","_law_shape","_law_names_here","_law_rooms_here","_law_asks","_law_k","_law_one","_law_other"] (.str "law_ringloads_k19_whole_tables_and_extras" 284)
noncomputable def f25 (P:Params):List Obj:=fdef7 (top 25) 139 379 ["_law_one","_law_other"] (.str "law_ringloads_k19_whole_tables_and_extras" 284)
noncomputable def f26 (P:Params):List Obj:=fdef7 (top 26) 146 387 ["_law_one","_law_other"] (.str "law_ringloads_k19_whole_tables_and_extras" 284)
noncomputable def f27 (P:Params):List Obj:=fdef7 (top 27) 153 395 ["_law_ring_here"] (.str "law_ringloads_k19_whole_tables_and_extras" 284)
noncomputable def f28 (P:Params):List Obj:=fdef7 (top 28) 160 402 ["_law_cut","_law_one","_law_other"] (.str "law_ringloads_k19_whole_tables_and_extras" 284)
noncomputable def f29 (P:Params):List Obj:=fdef7 (top 29) 167 411 ["_law_ring_here","_law_cut","_law_whole","_law_name","_law_one","_law_other","_law_size"] (.str "law_ringloads_k19_whole_tables_and_extras" 284)
noncomputable def f30 (P:Params):List Obj:=fdef5 (top 30) 174 424 (.str "law_ringloads_k19_whole_tables_and_extras" 284)
noncomputable def f31 (P:Params):List Obj:=fdef7 (top 31) 179 430 ["_law_state","_law_places","_law_ties"] (.str "law_ringloads_k19_whole_tables_and_extras" 284)
noncomputable def f32 (P:Params):List Obj:=fdef5 (top 32) 186 439 (.str "law_ringloads_k19_whole_tables_and_extras" 284)
noncomputable def obl (P:Params) (b:Nat):Obj:=(bif b.blt 58 then (bif b.blt 30 then (bif b.blt 22 then (f1 P).getD (b - 15) default else (bif b.blt 23 then (f3 P).getD (b - 22) default else (f4 P).getD (b - 23) default)) else (bif b.blt 44 then (bif b.blt 37 then (f5 P).getD (b - 30) default else (f6 P).getD (b - 37) default) else (bif b.blt 51 then (f8 P).getD (b - 44) default else (f9 P).getD (b - 51) default))) else (bif b.blt 73 then (bif b.blt 63 then (f10 P).getD (b - 58) default else (bif b.blt 68 then (f12 P).getD (b - 63) default else (f13 P).getD (b - 68) default)) else (bif b.blt 85 then (bif b.blt 78 then (f14 P).getD (b - 73) default else (f15 P).getD (b - 78) default) else (bif b.blt 92 then (f17 P).getD (b - 85) default else (f18 P).getD (b - 92) default))))
noncomputable def obr (P:Params) (b:Nat):Obj:=(bif b.blt 146 then (bif b.blt 118 then (bif b.blt 106 then (f19 P).getD (b - 99) default else (bif b.blt 113 then (f20 P).getD (b - 106) default else (f21 P).getD (b - 113) default)) else (bif b.blt 132 then (bif b.blt 125 then (f22 P).getD (b - 118) default else (f23 P).getD (b - 125) default) else (bif b.blt 139 then (f24 P).getD (b - 132) default else (f25 P).getD (b - 139) default))) else (bif b.blt 167 then (bif b.blt 153 then (f26 P).getD (b - 146) default else (bif b.blt 160 then (f27 P).getD (b - 153) default else (f28 P).getD (b - 160) default)) else (bif b.blt 179 then (bif b.blt 174 then (f29 P).getD (b - 167) default else (f30 P).getD (b - 174) default) else (bif b.blt 186 then (f31 P).getD (b - 179) default else (f32 P).getD (b - 186) default))))
noncomputable def ob (P:Params) (b:Nat):Obj:=bif b.blt 99 then obl P b else obr P b
noncomputable def ents (P:Params):List DictEntry:=[(DictEntry.mk (kh P "greatest_shared") (.str "greatest_shared" 197) (.ref 21)),
 (DictEntry.mk (kh P "NOUGHT") (.str "NOUGHT" 202) (.ref 22)),
 (DictEntry.mk (kh P "lowest") (.str "lowest" 211) (.ref 29)),
 (DictEntry.mk (kh P "plus") (.str "plus" 219) (.ref 36)),
 (DictEntry.mk (kh P "sum_of") (.str "sum_of" 228) (.ref 43)),
 (DictEntry.mk (kh P "is_within") (.str "is_within" 238) (.ref 50)),
 (DictEntry.mk (kh P "parts_places") (.str "parts_places" 247) (.ref 57)),
 (DictEntry.mk (kh P "across") (.str "across" 253) (.ref 62)),
 (DictEntry.mk (kh P "table_of") (.str "table_of" 261) (.ref 67)),
 (DictEntry.mk (kh P "row_of") (.str "row_of" 267) (.ref 72)),
 (DictEntry.mk (kh P "extra_of") (.str "extra_of" 273) (.ref 77)),
 (DictEntry.mk (kh P "reaches_out") (.str "reaches_out" 283) (.ref 84)),
 (DictEntry.mk (kh P "_law_begun") (.str "_law_begun" 294) (.ref 91)),
 (DictEntry.mk (kh P "_law_take") (.str "_law_take" 305) (.ref 98)),
 (DictEntry.mk (kh P "_law_low") (.str "_law_low" 315) (.ref 105)),
 (DictEntry.mk (kh P "_law_amount") (.str "_law_amount" 326) (.ref 112)),
 (DictEntry.mk (kh P "_law_names") (.str "_law_names" 332) (.ref 117)),
 (DictEntry.mk (kh P "_law_rooms") (.str "_law_rooms" 345) (.ref 124)),
 (DictEntry.mk (kh P "_law_ends") (.str "_law_ends" 357) (.ref 131)),
 (DictEntry.mk (kh P "_law_ring") (.str "_law_ring" 378) (.ref 138)),
 (DictEntry.mk (kh P "_law_plus") (.str "_law_plus" 386) (.ref 145)),
 (DictEntry.mk (kh P "_law_times") (.str "_law_times" 394) (.ref 152)),
 (DictEntry.mk (kh P "_law_copied") (.str "_law_copied" 401) (.ref 159)),
 (DictEntry.mk (kh P "_law_apart") (.str "_law_apart" 410) (.ref 166)),
 (DictEntry.mk (kh P "_law_across") (.str "_law_across" 423) (.ref 173)),
 (DictEntry.mk (kh P "_law_extra") (.str "_law_extra" 429) (.ref 178)),
 (DictEntry.mk (kh P "_law_four") (.str "_law_four" 438) (.ref 185)),
 (DictEntry.mk (kh P "law") (.str "law" 444) (.ref 190))]
def plc:List Value:=[(.int 2 0),(.int 0 0),(.ref 20),(.int 10 0),(.int 0 0),(.ref 28),(.int 15 0),(.int 0 0),(.ref 35),(.int 17 0),(.int 0 0),(.ref 42),(.int 23 0),(.int 0 0),(.ref 49),(.int 25 0),(.int 0 0),(.ref 56),(.int 27 0),(.int 0 0),(.ref 61),(.int 30 0),(.int 0 0),(.ref 66),(.int 32 0),(.int 0 0),(.ref 71),(.int 34 0),(.int 0 0),(.ref 76),(.int 38 0),(.int 0 0),(.ref 83),(.int 43 0),(.int 0 0),(.ref 90),(.int 48 0),(.int 0 0),(.ref 97),(.int 59 0),(.int 0 0),(.ref 104),(.int 67 0),(.int 0 0),(.ref 111),(.int 71 0),(.int 0 0),(.ref 116),(.int 77 0),(.int 0 0),(.ref 123),(.int 87 0),(.int 0 0),(.ref 130),(.int 97 0),(.int 0 0),(.ref 137),(.int 111 0),(.int 0 0),(.ref 144),(.int 113 0),(.int 0 0),(.ref 151),(.int 115 0),(.int 0 0),(.ref 158),(.int 117 0),(.int 0 0),(.ref 165),(.int 119 0),(.int 0 0),(.ref 172),(.int 125 0),(.int 0 0),(.ref 177),(.int 133 0),(.int 0 0),(.ref 184),(.int 138 0),(.int 0 0),(.ref 189)]
noncomputable def ov0 (P:Params):List (Nat×Obj):=[(12,fldO (plc.take 0))]
noncomputable def T0 (P:Params):BT:=L12 15 (fun b=>obAt [12] P (ov0 P) ob b 0) 1 0 0
noncomputable abbrev S0 (w:World) (os:OsState):SharedT:=⟨T0 w.params,15,life0,#[],⟨0,0,0,0⟩,187,os⟩
noncomputable def ov1 (P:Params):List (Nat×Obj):=[(3,mainD P (.str "law_ringloads_k19_whole_tables_and_extras" 284) ((ents P).take 12) 21),(12,fldO (plc.take 33))]
noncomputable def T1 (P:Params):BT:=L12 85 (fun b=>obAt [3,12] P (ov1 P) ob b 1) 1 0 1
noncomputable abbrev S1 (w:World) (os:OsState):SharedT:=⟨T1 w.params,85,life0,#[],⟨0,0,0,0⟩,286,os⟩
noncomputable def ov2 (P:Params):List (Nat×Obj):=[(3,mainD P (.str "law_ringloads_k19_whole_tables_and_extras" 284) ((ents P).take 24) 33),(12,fldO (plc.take 69))]
noncomputable def T2 (P:Params):BT:=L12 167 (fun b=>obAt [3,12] P (ov2 P) ob b 2) 1 0 2
noncomputable abbrev S2 (w:World) (os:OsState):SharedT:=⟨T2 w.params,167,life0,#[],⟨0,0,0,0⟩,411,os⟩
noncomputable def ov3 (P:Params):List (Nat×Obj):=[(3,mainD P (.str "law_ringloads_k19_whole_tables_and_extras" 284) ((ents P).take 28) 37),(12,fldO (plc.take 81))]
noncomputable def T3 (P:Params):BT:=L12 191 (fun b=>obAt [3,12] P (ov3 P) ob b 3) 1 0 3
noncomputable abbrev S3 (w:World) (os:OsState):SharedT:=⟨T3 w.params,191,life0,#[],⟨0,0,0,0⟩,445,os⟩
abbrev env:Env:={ scope:=pr.main.scope,locals:=mainNs,globals:=mainNs,cells:=[],code:=.ref 13,frame:=some 14 }
abbrev cE:Code:=.body (behindTheImports pr) env
abbrev B:List Frame:=[topFrame ⟨0,0,0,0⟩]
def sts1:List Stmt:=(pr.main.body.drop 0).take 17
theorem pc1 (w:World) (os:OsState):segRunT treeTable pr w 11 (some (.ref 6)) 1 378 (S0 w os) (piecesOf sts1 env cE ⟨0,0,0,0⟩ B)=some (.next,S1 w os,cE,⟨42,0,42,8⟩):=seg_by (by kernel_rfl)
def sts2:List Stmt:=(pr.main.body.drop 17).take 12
theorem pc2 (w:World) (os:OsState):segRunT treeTable pr w 11 (some (.ref 6)) 1 388 (S1 w os) (piecesOf sts2 env cE ⟨42,0,42,8⟩ B)=some (.next,S2 w os,cE,⟨117,0,118,95⟩):=seg_by (by kernel_rfl)
def sts3:List Stmt:=(pr.main.body.drop 29).take 4
theorem pc3 (w:World) (os:OsState):segRunT treeTable pr w 11 (some (.ref 6)) 1 119 (S2 w os) (piecesOf sts3 env cE ⟨117,0,118,95⟩ B)=some (.next,S3 w os,cE,⟨138,0,160,79⟩):=seg_by (by kernel_rfl)
noncomputable abbrev H1 (P:Params):Heap:=absHeap (T3 P) 191 life0
theorem pre (w:World) (os:OsState):topGo treeTable pr w 11 (some (.ref 6)) 12 ⟨boot_heap w.params,#[],boot_drawn,boot_toks,os⟩ (topStub pr)=some (⟨⟨⟨bootL w.params⟩,life0⟩,#[],⟨0,0,0,0⟩,187,os⟩,⟨denote treeTable cE,cE,⟨0,0,0,0⟩,B⟩):=by rw [den_tw]; exact go_by (by kernel_rfl)
theorem block (w:World) (os:OsState):segRun treeTable pr w 11 (some (.ref 6)) 1 1 ⟨⟨⟨bootL w.params⟩,life0⟩,#[],⟨0,0,0,0⟩,187,os⟩ (blockOf (behindTheImports pr) env cE ⟨0,0,0,0⟩ B)=some (.next,(S0 w os).abs,cE,⟨0,0,0,0⟩):=by kernel_rfl
theorem fin (w:World) (os:OsState):topRun treeTable pr w 11 (some (.ref 6)) 2 (S3 w os).abs ⟨doneF .next,cE,⟨138,0,160,79⟩,B⟩=some ⟨H1 w.params,#[],⟨0,0,0,0⟩,445,os⟩:=top_by (by kernel_rfl)
theorem body_eq:behindTheImports pr=(sts1++(sts2++(sts3++[]))):=by kernel_rfl
theorem run (w:World) (os:OsState):topRun treeTable pr w 11 (some (.ref 6)) (12+(1+(378+(388+(119+2))))) ⟨boot_heap w.params,#[],boot_drawn,boot_toks,os⟩ (topStub pr)=some ⟨H1 w.params,#[],⟨0,0,0,0⟩,445,os⟩ :=
 go_top (pre w os) (piece_block (block w os) (rest_eq body_eq (piece_app (segRun_of (pc1 w os)) (piece_app (segRun_of (pc2 w os)) (piece_app (segRun_of (pc3 w os)) (piece_nil (fin w os)))))))
abbrev q:Program:=view pr [32]
def loose:List Str:=(["greatest_shared","NOUGHT","lowest","plus","sum_of","is_within","parts_places","across","table_of","row_of","extra_of","reaches_out","_law_begun","_law_take","_law_low","_law_amount","_law_names","_law_rooms","_law_ends","_law_ring","_law_plus","_law_times","_law_copied","_law_apart","_law_across","_law_extra","_law_four"]:List String).map Str.ofString
noncomputable def Kf (P:Params):Frag:=(3,((ov3 P).getD 0 (0,default)).2)::[(20,(f1 P).getD 5 default),(21,(f1 P).getD 6 default),(22,(f3 P).getD 0 default),(28,(f4 P).getD 5 default),(29,(f4 P).getD 6 default),(35,(f5 P).getD 5 default),(36,(f5 P).getD 6 default),(42,(f6 P).getD 5 default),(43,(f6 P).getD 6 default),(49,(f8 P).getD 5 default),(50,(f8 P).getD 6 default),(56,(f9 P).getD 5 default),(57,(f9 P).getD 6 default),(61,(f10 P).getD 3 default),(62,(f10 P).getD 4 default),(66,(f12 P).getD 3 default),(67,(f12 P).getD 4 default),(71,(f13 P).getD 3 default),(72,(f13 P).getD 4 default),(76,(f14 P).getD 3 default),(77,(f14 P).getD 4 default),(83,(f15 P).getD 5 default),(84,(f15 P).getD 6 default),(90,(f17 P).getD 5 default),(91,(f17 P).getD 6 default),(97,(f18 P).getD 5 default),(98,(f18 P).getD 6 default),(104,(f19 P).getD 5 default),(105,(f19 P).getD 6 default),(111,(f20 P).getD 5 default),(112,(f20 P).getD 6 default),(116,(f21 P).getD 3 default),(117,(f21 P).getD 4 default),(123,(f22 P).getD 5 default),(124,(f22 P).getD 6 default),(130,(f23 P).getD 5 default),(131,(f23 P).getD 6 default),(137,(f24 P).getD 5 default),(138,(f24 P).getD 6 default),(144,(f25 P).getD 5 default),(145,(f25 P).getD 6 default),(151,(f26 P).getD 5 default),(152,(f26 P).getD 6 default),(158,(f27 P).getD 5 default),(159,(f27 P).getD 6 default),(165,(f28 P).getD 5 default),(166,(f28 P).getD 6 default),(172,(f29 P).getD 5 default),(173,(f29 P).getD 6 default),(177,(f30 P).getD 3 default),(178,(f30 P).getD 4 default),(184,(f31 P).getD 5 default),(185,(f31 P).getD 6 default),(189,(f32 P).getD 3 default),(190,(f32 P).getD 4 default)]
abbrev as:List Addr:=[3,20,21,22,28,29,35,36,42,43,49,50,56,57,61,62,66,67,71,72,76,77,83,84,90,91,97,98,104,105,111,112,116,117,123,124,130,131,137,138,144,145,151,152,158,159,165,166,172,173,177,178,184,185,189,190]
noncomputable abbrev Hk:Hook:=kHook Kf as (fun _=>by kernel_rfl)
abbrev Xt:Shared→Bool:=fun s=>xlAt q [] s && recOk (RowW.records PySem.Challenge.rw_ringloads_k19_whole_tables_and_extras.row.toRowW) s
theorem size (w:World):((boot_heap w.params).isNs mainGlobals && (#[]:Array GenState).size == 0,(boot_heap w.params).objs.size,(boot_heap w.params).nsMap mainGlobals "__annotations__")=(true,11,some (.ref 6)):=by kernel_rfl
theorem look1 (w:World) (os:OsState):(staticsOk (importedModules pr.main.body) (boot_heap w.params) (H1 w.params) && namesBound pr (H1 w.params) && gensDone ⟨H1 w.params,#[],⟨0,0,0,0⟩,445,os⟩ && laidKept (boot_heap w.params) (H1 w.params))=true:=by kernel_rfl
theorem look2 (w:World) (os:OsState):openSeen q loose (importedModules pr.main.body) Xt true ⟨H1 w.params,#[],⟨0,0,0,0⟩,445,os⟩=openGood q loose:=by rw [Fast.te4187177175401517315]; kernel_rfl
theorem look3 (w:World) (os:OsState):Hk.obs ⟨H1 w.params,#[],⟨0,0,0,0⟩,445,os⟩=Hk.val w:=by kernel_rfl
theorem opened:opening pr=plainProg pr.main.scope.names:=by kernel_rfl
theorem left:LeftO pr q loose Xt Hk.obs Hk.val 2464:=LeftO.of_pieces (M:=(12+(1+(378+(388+(119+2)))))) (boot_open opened (by decide) (fun s=>by kernel_rfl)) size run (by decide +kernel) (fun w=>funext fun os=>looks_pair (look1 w os) (looks_pair (look2 w os) (look3 w os)))
end Hd
namespace My
open PySem L2
local macro_rules | `(tactic| walk_at "w")=>do
 let ids:=("takeW_bx takeW_d tupOf_bx wCompB noLr_dic flatL_dic varW_d varW_own varW_bx movW_d movW_own movW_bx selW_own selW_d selW_bx pkW_own pkW_bx pkW_d pkB_own pkB_bx pkB_d fzW_own fzW_d wAsgB tgNamesL wAppIn inV' isBx toDB_t toDB_o eraK_nil eraK_cons noLr_un noLr_d noLr_own noLr_bx noLrs_nil noLrs_cons flatL_bx wFzS wRep wSeq wIf wTest wBin wUn wVar wMove wC wSet wRet wDrop wNext wCall wCallB wCallD aVal aVar aNil toD toDs toInt isBl wTup wLst wNot wAnd wOr wAndV wNotV wFrz wIsOwn wIxV wSetV wLenV wApp wPeek wPeekB noL noLs flatOwn flatL_un flatL_d flatL_own List.all_cons List.all_nil Bool.and_true Bool.true_and ownV wPar wAsgT wAsgL tgLst wFor wRng1 wRng2 wSrc wJoin wChain itemsOf_lst itemsOf_tup itemsOf_fr tgName tgTup_tup tgTup_ask tgTup_fr tgNames opAdd opSub opMulI opDiv opMod opPow opLt opLe opGt opGe opEq opNe opNeg opIx_lst opIx_tup opIx_str ix_ring0 ix_ring1 ix_ask0 ix_ask1 ix_ask2 ix_ask3 ix_fr0 ix_fr1 ix_cut0 ix_cut1 ix_g0 ix_g1 noL_cut shape_cut eqD_cut eqD_fr shape_fr noL_fr noLs_frs noLs_cuts noLs_ints shape_on shape_back shape_way way_on way_back List.length_map rooms_len opLen_lst opLen_tup opLen_str opLen_fr opLen_ring opLen_ask isTy_tup_fr isTy_lst_fr isTy_int_fr isTy_bool_fr isTy_str_fr isTy_tup_ring noLs_frL frL_len opAbs opMin opMax opInt opList opIsT isTy_non isTy_bl isTy_int isTy_str isTy_tup isTy_lst isTy_tup_g isTy_tup_cut isTy_tup_ask opLen_cut opLen_g beq_self_eq_true String.reduceBEq String.reduceEq reduceCtorEq wSl2 wPart wComp capsOf putAll unsAt shapeD_int shapeD_bl shapeD_non eqD_int eqD_str eqD_bl List.getElem?_cons_zero List.getElem?_cons_succ List.set_cons_zero List.set_cons_succ List.cons_append List.nil_append List.replicate_succ List.replicate_zero List.map_cons List.map_nil List.drop_succ_cons List.drop_zero Option.getD_some true_and decide_eq_true_eq Bool.not_eq_true' decide_eq_false_iff_not ite_true ite_false Bool.false_eq_true Bool.true_eq_false if_true if_false List.length_cons List.length_nil Nat.reduceAdd Nat.reduceSub atI_0 atI_1 atI_2 atI_3 atI_4 ix30 ix31 ix32 Option.some.injEq exists_eq_left' exists_eq_left".splitOn " ").toArray.map fun s=>Lean.mkIdent ((s.splitOn ".").foldl Lean.Name.mkStr Lean.Name.anonymous)
 `(tactic| try simp only [$[$ids:ident],*])
local macro_rules | `(tactic| walk_at "o")=>`(tactic| first | exact Or.inl rfl | exact Or.inr rfl)
abbrev s_greatest_shared:Stmt:=Hd.top 1
abbrev N_greatest_shared:List Str:=["one","other","rest"]
abbrev s_lowest:Stmt:=Hd.top 4
abbrev N_lowest:List Str:=["top","bottom","shared"]
abbrev s_plus:Stmt:=Hd.top 5
abbrev N_plus:List Str:=["one","other"]
abbrev s_sum_of:Stmt:=Hd.top 6
abbrev N_sum_of:List Str:=["some","whole","one"]
abbrev s_is_within:Stmt:=Hd.top 8
abbrev N_is_within:List Str:=["cut","place"]
abbrev s_parts_places:Stmt:=Hd.top 9
abbrev N_parts_places:List Str:=["cut","one","other"]
abbrev s_across:Stmt:=Hd.top 10
abbrev N_across:List Str:=["ring","cut"]
abbrev s_row_of:Stmt:=Hd.top 13
abbrev N_row_of:List Str:=["ring","g"]
abbrev s_table_of:Stmt:=Hd.top 12
abbrev N_table_of:List Str:=["ring"]
abbrev s_reaches_out:Stmt:=Hd.top 15
abbrev N_reaches_out:List Str:=["inner","outer","one","other"]
abbrev s_extra_of:Stmt:=Hd.top 14
abbrev N_extra_of:List Str:=["ring","g","h","p","q","inner","outer"]
abbrev s__law_begun:Stmt:=Hd.top 17
abbrev N__law_begun:List Str:=["_law_script","_law_k","_law_cell"]
abbrev s__law_take:Stmt:=Hd.top 18
abbrev N__law_take:List Str:=["_law_state","_law_many","_law_digit","_law_drawn","_law_turn"]
abbrev s__law_names:Stmt:=Hd.top 21
abbrev N__law_names:List Str:=["_law_state","_law_many","_law_letters","_law_base","_law_at","_law_turn"]
abbrev s__law_low:Stmt:=Hd.top 19
abbrev N__law_low:List Str:=["_law_top","_law_bottom","_law_one","_law_share"]
abbrev s__law_amount:Stmt:=Hd.top 20
abbrev N__law_amount:List Str:=["_law_state","_law_least","_law_kind","_law_bottom","_law_top"]
abbrev s__law_rooms:Stmt:=Hd.top 22
abbrev N__law_rooms:List Str:=["_law_state","_law_ties","_law_kind","_law_alike","_law_one","_law_rooms_here","_law_more"]
abbrev s__law_ends:Stmt:=Hd.top 23
abbrev N__law_ends:List Str:=["_law_state","_law_shape","_law_places","_law_k","_law_one","_law_other"]
abbrev s__law_ring:Stmt:=Hd.top 24
abbrev N__law_ring:List Str:=["_law_script","_law_at","_law_most","_law_count","_law_state","_law_places","_law_many","_law_kinds","_law_shape","_law_names_here","_law_rooms_here","_law_asks","_law_k","_law_one","_law_other"]
abbrev s__law_copied:Stmt:=Hd.top 27
abbrev N__law_copied:List Str:=["_law_ring_here"]
abbrev s__law_four:Stmt:=Hd.top 31
abbrev N__law_four:List Str:=["_law_state","_law_places","_law_ties"]
abbrev s__law_plus:Stmt:=Hd.top 25
abbrev N__law_plus:List Str:=["_law_one","_law_other"]
abbrev s__law_extra:Stmt:=Hd.top 30
abbrev N__law_extra:List Str:=["_law_ring_here","_law_ties","_law_whole","_law_name","_law_one","_law_other","_law_size","_law_near","_law_far"]
abbrev s__law_times:Stmt:=Hd.top 26
abbrev N__law_times:List Str:=["_law_one","_law_other"]
abbrev s__law_apart:Stmt:=Hd.top 28
abbrev N__law_apart:List Str:=["_law_cut","_law_one","_law_other"]
abbrev s__law_across:Stmt:=Hd.top 29
abbrev N__law_across:List Str:=["_law_ring_here","_law_cut","_law_whole","_law_name","_law_one","_law_other","_law_size"]
abbrev s_law:Stmt:=Hd.top 32
abbrev N_law:List Str:=["_law_script","_law_ring_here","_law_kept","_law_places","_law_due","_law_one","_law_told","_law_k","_law_g","_law_h","_law_p","_law_q","_law_extra_here","_law_more"]
def fs_greatest_shared:FS:=fun ls post=>∃ a b:Int,ls=[.d (.int a),.d (.int b)]∧post (.d (.int (Int.gcd a b))) ls
def b_greatest_shared_0:W Fl:=(wSeq (wSet 2 (wBin opMod (wVar 0) (wVar 1)))
  (wSeq (wSet 0 (wVar 1))
  (wSet 1 (wVar 2))))
def m_greatest_shared:W Fl:=(wSeq (wWhile (wTest (wBin opNe (wVar 1) (wC (.int 0)))) b_greatest_shared_0)
  (wRet (wCallD opAbs (aVal (wVar 0) aNil))))
theorem sat_greatest_shared:∀ ls post,ls.length=2→fs_greatest_shared ls post→m_greatest_shared (ls++List.replicate 1 .un) (okEnd ls post):=by
 rintro ls post - ⟨a,b,rfl,h⟩
 unfold m_greatest_shared
 walk_at "w"
 refine ⟨fun n ρ=>∃ x y r,ρ=[.d (.int x),.d (.int y),r]∧Int.gcd x y=Int.gcd a b∧n=y.natAbs,⟨_,a,b,_,rfl,rfl,rfl⟩,?_⟩
 rintro n ρ ⟨x,y,r,rfl,hg,rfl⟩
 walk_at "w"
 split
 ·
  rename_i hy
  have hy:y≠0:=by simpa using hy
  exact ⟨hy,_,natAbs_fmod_lt x hy,y,x.fmod y,_,rfl,by rw [gcd_fmod]; exact hg,rfl⟩
 ·
  rename_i hy
  have hy:y=0:=by simpa using hy
  subst hy
  refine ⟨_,back_d (back_d back0),?_⟩
  have e:(if x < 0 then -x else x)=((Int.gcd a b:Nat):Int):=by rw [← hg,Int.gcd_zero_right]; split <;> omega
  rw [e]
  exact h
def fs_lowest:FS:=fun ls post=>∃ t b:Int,ls=[.d (.int t),.d (.int b)]∧b≠0∧b.natAbs < 2 ^ 9000∧post (.d (frD (Rat.divInt t b))) ls
def m_lowest:W Fl:=(wSeq (wSet 2 (wFrz (wCall fs_greatest_shared (aVal (wVar 0) (aVal (wVar 1) aNil)))))
  (wSeq (wIf (wTest (wBin opLt (wVar 1) (wC (.int 0)))) (wSet 2 (wUn opNeg (wVar 2))) wNext)
  (wRet (wTup (aVal (wBin opDiv (wVar 0) (wVar 2)) (aVal (wBin opDiv (wVar 1) (wVar 2)) aNil))))))
theorem sat_lowest:∀ ls post,ls.length=2→fs_lowest ls post→m_lowest (ls++List.replicate 1 .un) (okEnd ls post):=by
 rintro ls post - ⟨t,b,rfl,hb,hz,h⟩
 unfold m_lowest
 walk_at "w"
 refine ⟨t,b,rfl,?_⟩
 walk_at "w"
 have h1:=share_ne (t:=t) hb
 have h2:=Nat.lt_of_le_of_lt (share_le (t:=t) hb) hz
 have fin:∀ {g:Int} {ρ:Ev},g=shareOf t b→g≠0∧g.natAbs < 2 ^ 9000∧g≠0∧g.natAbs < 2 ^ 9000∧2≤sizeLine∧okEnd [.d (.int t),.d (.int b)] post (.rt (.d (.tup [.int (t.fdiv g),.int (b.fdiv g)]))) ρ:=fun {g ρ} e=>by
  have e1:g≠0:=by rw [e]; exact h1
  have e2:g.natAbs < 2 ^ 9000:=by rw [e]; exact h2
  refine ⟨e1,e2,e1,e2,by decide,_,back_d (back_d back0),?_⟩
  rw [low_pair hb e]
  exact h
 split
 ·
  rename_i hlt
  exact fin (by simp [shareOf,hlt])
 ·
  rename_i hlt
  exact fin (by simp [shareOf,hlt])
def fs_plus:FS:=fun ls post=>∃ p q:Rat,ls=[.d (frD p),.d (frD q)]∧RB 400000 p∧RB 400000 q∧p.den*q.den < 2 ^ 9000∧post (.d (frD (p+q))) ls
def m_plus:W Fl:=(wRet (wCall fs_lowest (aVal (wFrz (wBin opAdd (wBin opMulI (wBin opIx (wVar 0) (wC (.int 0))) (wBin opIx (wVar 1) (wC (.int 1)))) (wBin opMulI (wBin opIx (wVar 1) (wC (.int 0))) (wBin opIx (wVar 0) (wC (.int 1)))))) (aVal (wFrz (wBin opMulI (wBin opIx (wVar 0) (wC (.int 1))) (wBin opIx (wVar 1) (wC (.int 1))))) aNil))))
theorem sat_plus:∀ ls post,ls.length=2→fs_plus ls post→m_plus (ls++List.replicate 0 .un) (okEnd ls post):=by
 rintro ls post - ⟨p,q,rfl,hp,hq,hz,h⟩
 unfold m_plus
 simp only [frD]
 walk_at "w"
 refine ⟨hp.bn (by decide),hq.bd (by decide),hq.bn (by decide),hp.bd (by decide),hp.bd (by decide),hq.bd (by decide),_,_,rfl,dens_ne p q,by rw [dens_abs]; exact hz,_,back_d (back_d back0),?_⟩
 rw [add_eq]
 exact h
theorem use_plus {p q:Rat} {post:L→List L→Prop} (hp:RB 4400 p) (hq:RB 4400 q) (h:post (.d (frD (p+q))) [.d (frD p),.d (frD q)]):fs_plus [.d (frD p),.d (frD q)] post :=
 ⟨p,q,rfl,hp.mono (by decide),hq.mono (by decide),Nat.lt_of_lt_of_le (mul_lt_pow hp.2 hq.2) (Nat.pow_le_pow_right (by decide) (by decide)),h⟩
def fs_sum_of:FS:=fun ls post=>∃ (qs:List Rat) (x:D),ls=[.d x]∧(x=.lst (qs.map frD)∨x=.tup (qs.map frD))∧qs.length≤63∧(∀ q∈qs,RB 4400 q)∧SumOk qs∧post (.d (frD (sumQ qs))) ls
def b_sum_of_0:W Fl:=(wSet 1 (wCall fs_plus (aVal (wVar 1) (aVal (wVar 2) aNil))))
def m_sum_of:W Fl:=(wSeq (wSet 1 (wC (.tup [(.int 0),(.int 1)])))
  (wSeq (wFor (wSrc (wVar 0)) (tgName 2) b_sum_of_0)
  (wRet (wMove 1))))
theorem sum_loop {x:D} {post:Fl→Ev→Prop}:∀ (qs:List Rat) (acc:Rat) (n:Nat) (r:L),qs.length≤63→n+4401*qs.length≤400000→RB n acc→(∀ q∈qs,RB 4400 q)→acc.den*denP qs < 2 ^ 9000→(∀ r',post .nx [.d x,.d (frD (qs.foldl (·+·) acc)),r']) →
  wForL (tgName 2) b_sum_of_0 (qs.map frD) [.d x,.d (frD acc),r] post
 | [],acc,n,r,_,_,_,_,_,h=>h r
 | q::qs,acc,n,r,hl,hn,ha,hq,hd,h=>by
  have hd':acc.den*(q.den*denP qs) < 2 ^ 9000:=hd
  have hq1:=hq q List.mem_cons_self
  have hlc:(q::qs).length=qs.length+1:=rfl
  have dpos:0 < denP qs:=denP_pos qs
  have hz:acc.den*q.den < 2 ^ 9000:=Nat.lt_of_le_of_lt (by rw [← Nat.mul_assoc]; exact Nat.le_mul_of_pos_right _ dpos) hd'
  show wForL _ _ (frD q::qs.map frD) _ _
  unfold wForL b_sum_of_0
  walk_at "w"
  refine ⟨acc,q,rfl,ha.mono (by omega),hq1.mono (by decide),hz,?_⟩
  refine sum_loop qs (acc+q) (n+4400+1) _ (by omega) (by omega) (ha.add hq1) (fun z hz=>hq z (List.mem_cons_of_mem _ hz)) (Nat.lt_of_le_of_lt ?_ hd') h
  rw [← Nat.mul_assoc]
  exact Nat.mul_le_mul_right _ (den_add_le acc q)
theorem sum_loopD {x:D} {E:Nat} (e0:0 < E) (e1:E < 2 ^ 4400) {post:Fl→Ev→Prop}:∀ (qs:List Rat) (acc:Rat) (n:Nat) (r:L),qs.length≤63→n+4401*qs.length≤400000→RB n acc→(∀ q∈qs,RB 4400 q)→acc.den∣E→(∀ q∈qs,q.den∣E)→(∀ r',post .nx [.d x,.d (frD (qs.foldl (·+·) acc)),r']) →
  wForL (tgName 2) b_sum_of_0 (qs.map frD) [.d x,.d (frD acc),r] post
 | [],acc,n,r,_,_,_,_,_,_,h=>h r
 | q::qs,acc,n,r,hl,hn,ha,hq,hd,hds,h=>by
  have hq1:=hq q List.mem_cons_self
  have hq2:=hds q List.mem_cons_self
  have hlc:(q::qs).length=qs.length+1:=rfl
  have hz:acc.den*q.den < 2 ^ 9000:=Nat.lt_of_lt_of_le (mul_lt_pow (m:=4400) (n:=4400) (Nat.lt_of_le_of_lt (Nat.le_of_dvd e0 hd) e1) (Nat.lt_of_le_of_lt (Nat.le_of_dvd e0 hq2) e1)) (Nat.pow_le_pow_right (by decide) (by decide))
  show wForL _ _ (frD q::qs.map frD) _ _
  unfold wForL b_sum_of_0
  walk_at "w"
  refine ⟨acc,q,rfl,ha.mono (by omega),hq1.mono (by decide),hz,?_⟩
  exact sum_loopD e0 e1 qs (acc+q) (n+4400+1) _ (by omega) (by omega) (ha.add hq1) (fun z hz=>hq z (List.mem_cons_of_mem _ hz)) (den_add e0 hd hq2) (fun z hz=>hds z (List.mem_cons_of_mem _ hz)) h
theorem sat_sum_of:∀ ls post,ls.length=1→fs_sum_of ls post→m_sum_of (ls++List.replicate 2 .un) (okEnd ls post):=by
 rintro ls post - ⟨qs,x,rfl,hx,hl,hq,hd,h⟩
 unfold m_sum_of
 have fin:∀ r',okEnd [.d x] post (.rt (.d (frD (sumQ qs)))) [.d x,.d (frD (sumQ qs)),r']:=fun r'=>⟨_,back_d back0,h⟩
 rcases hx with rfl | rfl
 ·
  walk_at "w"
  rcases hd with hd | ⟨E,e0,e1,hd⟩
  ·
   exact sum_loop qs 0 1 .un hl (by omega) ⟨by decide,by decide⟩ hq (by show 1*_ < _; rw [Nat.one_mul]; exact hd) fun r'=>fin r'
  ·
   exact sum_loopD e0 e1 qs 0 1 .un hl (by omega) ⟨by decide,by decide⟩ hq (Nat.one_dvd _) hd fun r'=>fin r'
 ·
  walk_at "w"
  rcases hd with hd | ⟨E,e0,e1,hd⟩
  ·
   exact sum_loop qs 0 1 .un hl (by omega) ⟨by decide,by decide⟩ hq (by show 1*_ < _; rw [Nat.one_mul]; exact hd) fun r'=>fin r'
  ·
   exact sum_loopD e0 e1 qs 0 1 .un hl (by omega) ⟨by decide,by decide⟩ hq (Nat.one_dvd _) hd fun r'=>fin r'
theorem use_sum {qs:List Rat} {b:Nat} {post:L→List L→Prop} (hq:∀ q∈qs,RB b q) (hl:qs.length≤63) (hb:b≤1000) (hm:b*qs.length < 9000) (h:post (.d (frD (sumQ qs))) [.d (.lst (qs.map frD))]):fs_sum_of [.d (.lst (qs.map frD))] post :=
 ⟨qs,_,rfl,.inl rfl,hl,fun q hm=>(hq q hm).mono (Nat.le_trans hb (by decide)),.inl (Nat.lt_of_le_of_lt (denP_le qs hq) (Nat.pow_lt_pow_right (by decide) hm)),h⟩
def fs_is_within:FS:=fun ls post=>∃ (c:Nat×Nat) (p:Nat),ls=[.d (cutP c),.d (.int p)]∧post (.d (.bl (within c p))) ls
def m_is_within:W Fl:=(wRet (wChain opLt opLe (wBin opIx (wVar 0) (wC (.int 0))) (wVar 1) (wBin opIx (wVar 0) (wC (.int 1)))))
theorem sat_is_within:∀ ls post,ls.length=2→fs_is_within ls post→m_is_within (ls++List.replicate 0 .un) (okEnd ls post):=by
 rintro ls post - ⟨c,p,rfl,h⟩
 unfold m_is_within
 walk_at "w"
 unfold within at h
 split
 ·
  rename_i h1
  refine ⟨_,back_d (back_d back0),?_⟩
  have e:decide ((p:Int)≤(c.2:Int))=decide (c.1 < p∧p≤c.2):=by rw [decide_eq_decide]; omega
  rw [e]; exact h
 ·
  rename_i h1
  refine ⟨_,back_d (back_d back0),?_⟩
  rw [decide_eq_false (show ¬ (c.1 < p∧p≤c.2) by omega)] at h
  exact h
def fs_parts_places:FS:=fun ls post=>∃ (c:Nat×Nat) (i j:Nat),ls=[.d (cutP c),.d (.int i),.d (.int j)]∧post (.d (.bl (apart c i j))) ls
def m_parts_places:W Fl:=(wRet (wBin opNe (wCall fs_is_within (aVal (wVar 0) (aVal (wVar 1) aNil))) (wCall fs_is_within (aVal (wVar 0) (aVal (wVar 2) aNil)))))
theorem sat_parts_places:∀ ls post,ls.length=3→fs_parts_places ls post→m_parts_places (ls++List.replicate 0 .un) (okEnd ls post):=by
 rintro ls post - ⟨c,i,j,rfl,h⟩
 unfold m_parts_places
 walk_at "w"
 refine ⟨c,i,rfl,?_⟩
 walk_at "w"
 refine ⟨c,j,rfl,?_⟩
 walk_at "w"
 refine ⟨_,back_d (back_d (back_d back0)),?_⟩
 have e:(!decide (within c i=within c j))=apart c i j:=by
  unfold apart
  cases within c i <;> cases within c j <;> rfl
 rw [e]; exact h
theorem filterMap_if {α β:Type} (p:α→Bool) (f:α→β):∀ xs:List α,xs.filterMap (fun a=>if p a=true then some (f a) else none)=(xs.filter p).map f
 | []=>rfl
 | x::xs=>by
  rw [List.filterMap_cons,List.filter_cons]
  cases e:p x
  ·
   simp [filterMap_if p f xs]
  ·
   simp [filterMap_if p f xs]
def fs_across:FS:=fun ls post=>∃ (R:Ring) (c:Nat×Nat),ls=[.d (ringD R),.d (cutP c)]∧R.Ok∧post (.d (frD (acrossQ R.asks c))) ls
def b_across_0:W L:=(wBin opIx (wVar 0) (wC (.int 3)))
def m_across:W Fl:=(wRet (wCall fs_sum_of (aVal (wFrz (wComp 1 [1] (wSrc (wBin opIx (wVar 0) (wC (.int 1)))) (tgName 0) (wTest (wCall fs_parts_places (aVal (wVar 1) (aVal (wBin opIx (wVar 0) (wC (.int 1))) (aVal (wBin opIx (wVar 0) (wC (.int 2))) aNil))))) b_across_0)) aNil)))
theorem sat_across:∀ ls post,ls.length=2→fs_across ls post→m_across (ls++List.replicate 0 .un) (okEnd ls post):=by
 rintro ls post - ⟨R,c,rfl,hR,h⟩
 have hfew:=hR.few
 unfold m_across
 walk_at "w"
 refine ⟨Nat.le_trans hfew (by decide),?_⟩
 refine comp_pure (h:=fun a:Ask=>if apart c a.one a.other=true then some (frD a.size) else none) _ _ _ (fun a ha Q q=>?_) fun l' cc=>?_
 ·
  walk_at "w"
  refine ⟨c,a.one,a.other,rfl,?_⟩
  walk_at "w"
  unfold b_across_0
  cases e:apart c a.one a.other
  ·
   rw [e] at q
   walk_at "w"
   exact q
  ·
   rw [e] at q
   walk_at "w"
   exact q
 ·
  walk_at "w"
  have fl:=List.length_filter_le (fun a:Ask=>apart c a.one a.other) R.asks
  have e:R.asks.filterMap (fun a:Ask=>if apart c a.one a.other=true then some (frD a.size) else none)=((R.asks.filter fun a=>apart c a.one a.other).map (·.size)).map frD:=by
   rw [filterMap_if (fun a:Ask=>apart c a.one a.other) (fun a=>frD a.size),List.map_map]
   rfl
  rw [e]
  obtain ⟨E,e0,e1,hd⟩:=hR.cd
  refine ⟨_,_,rfl,.inl rfl,by rw [List.length_map]; omega,fun q hq=>?_,.inr ⟨E,e0,Nat.lt_of_lt_of_le e1 (Nat.pow_le_pow_right (by decide) (by decide)),fun q hq=>?_⟩,⟨_,back_d (back_d back0),h⟩⟩
  ·
   obtain ⟨a,ha,rfl⟩:=List.mem_map.mp hq
   exact (hR.rb (List.mem_filter.mp ha).1).mono (by decide)
  ·
   obtain ⟨a,ha,rfl⟩:=List.mem_map.mp hq
   exact hd a (List.mem_filter.mp ha).1
def fs_row_of:FS:=fun ls post=>∃ (R:Ring) (g:Nat),ls=[.d (ringD R),.d (.int (g:Int))]∧R.Ok∧∀ a,post (.own a (rowL R g)) ls
def b_row_of_0:W L:=(wCall fs_across (aVal (wVar 1) (aVal (wTup (aVal (wFrz (wCallD opMin (aVal (wVar 2) (aVal (wVar 0) aNil)))) (aVal (wFrz (wCallD opMax (aVal (wVar 2) (aVal (wVar 0) aNil)))) aNil))) aNil)))
def m_row_of:W Fl:=(wRet (wComp 1 [0,1] (wRng1 (wCallD opLen (aVal (wBin opIx (wVar 0) (wC (.int 0))) aNil))) (tgName 0) wTrue b_row_of_0))
theorem mm_cut (g h:Nat):D.tup [.int (if (h:Int) < (g:Int) then (h:Int) else (g:Int)),.int (if (h:Int) > (g:Int) then (h:Int) else (g:Int))]=cutP (min g h,max g h):=by
 unfold cutP
 congr 2
 ·
  congr 1
  split <;> omega
 ·
  congr 2
  split <;> omega
theorem sat_row_of:∀ ls post,ls.length=2→fs_row_of ls post→m_row_of (ls++List.replicate 0 .un) (okEnd ls post):=by
 rintro ls post - ⟨R,g,rfl,hR,h⟩
 have hhi:=hR.hi
 unfold m_row_of
 walk_at "w"
 rw [Int.toNat_natCast,rngD_map]
 refine ⟨⟨by omega,by omega⟩,by rw [List.length_map,List.length_range]; exact size99 (by omega),comp_map (h:=fun (k:Nat)=>frD (acrossQ R.asks (min g k,max g k))) _ [] _ (fun k hk Q hq=>?_) fun l1 a2=>?_⟩
 ·
  unfold b_row_of_0
  walk_at "w"
  refine ⟨by decide,R,(min g k,max g k),by rw [mm_cut],hR,hq⟩
 ·
  walk_at "w"
  exact ⟨_,back_d (back_d back0),h a2⟩
def fs_table_of:FS:=fun ls post=>∃ (R:Ring),ls=[.d (ringD R)]∧R.Ok∧∀ (a:Addr) (ad:Nat→Addr),post (.bx (some a) (boxL R.n ad (rowL R))) ls
def b_table_of_0:W L:=(wCall fs_row_of (aVal (wVar 1) (aVal (wVar 0) aNil)))
def m_table_of:W Fl:=(wRet (wCompB 1 [0] (wRng1 (wCallD opLen (aVal (wBin opIx (wVar 0) (wC (.int 0))) aNil))) (tgName 0) wTrue b_table_of_0))
theorem sat_table_of:∀ ls post,ls.length=1→fs_table_of ls post→m_table_of (ls++List.replicate 0 .un) (okEnd ls post):=by
 rintro ls post - ⟨R,rfl,hR,h⟩
 have hhi:=hR.hi
 unfold m_table_of
 walk_at "w"
 rw [Int.toNat_natCast,rngD_map]
 refine ⟨⟨by omega,by omega⟩,by rw [List.length_map,List.length_range]; exact size99 (by omega),compB_own (f:=rowL R) _ [] _ (fun k hk Q hq=>?_) fun l1 as hl a2=>?_⟩
 ·
  unfold b_table_of_0
  walk_at "w"
  exact ⟨R,k,rfl,hR,hq⟩
 ·
  rw [List.nil_append,zip_box (by simpa using hl)]
  walk_at "w"
  exact ⟨_,back_d back0,h a2 _⟩
def fs_reaches_out:FS:=fun ls post=>∃ (i o:Nat×Nat) (x y:Nat),ls=[.d (cutP i),.d (cutP o),.d (.int (x:Int)),.d (.int (y:Int))]∧post (.d (.bl (reachB i o x y))) ls
def m_reaches_out:W Fl:=(wSeq (wIf (wTest (wCall fs_is_within (aVal (wVar 0) (aVal (wVar 2) aNil)))) (wRet (wNotV (wTest (wCall fs_is_within (aVal (wVar 1) (aVal (wVar 3) aNil)))))) wNext)
  (wRet (wAndV (wCall fs_is_within (aVal (wVar 0) (aVal (wVar 3) aNil))) (wNotV (wTest (wCall fs_is_within (aVal (wVar 1) (aVal (wVar 2) aNil))))))))
theorem sat_reaches_out:∀ ls post,ls.length=4→fs_reaches_out ls post→m_reaches_out (ls++List.replicate 0 .un) (okEnd ls post):=by
 rintro ls post - ⟨i,o,x,y,rfl,h⟩
 unfold reachB at h
 unfold m_reaches_out
 walk_at "w"
 refine ⟨i,x,rfl,?_⟩
 walk_at "w"
 cases b:within i x
 ·
  rw [b] at h
  simp only [Bool.false_eq_true,if_false] at h ⊢
  refine ⟨i,y,rfl,?_⟩
  walk_at "w"
  cases b2:within i y
  ·
   rw [b2] at h
   walk_at "w"
   exact ⟨_,back_d (back_d (back_d (back_d back0))),h⟩
  ·
   rw [b2] at h
   walk_at "w"
   refine ⟨o,x,rfl,?_⟩
   walk_at "w"
   exact ⟨_,back_d (back_d (back_d (back_d back0))),h⟩
 ·
  rw [b] at h
  simp only [if_true] at h ⊢
  refine ⟨o,y,rfl,?_⟩
  walk_at "w"
  exact ⟨_,back_d (back_d (back_d (back_d back0))),h⟩
def fs_extra_of:FS:=fun ls post=>∃ (R:Ring) (g h p q:Nat),ls=[.d (ringD R),.d (.int (g:Int)),.d (.int (h:Int)),.d (.int (p:Int)),.d (.int (q:Int))]∧R.Ok∧post (.d (frD (extraQ R.asks g h p q))) ls
def b_extra_of_0:W L:=(wBin opIx (wVar 0) (wC (.int 3)))
def m_extra_of:W Fl:=(wSeq (wSet 5 (wTup (aVal (wVar 2) (aVal (wVar 3) aNil))))
  (wSeq (wSet 6 (wTup (aVal (wVar 1) (aVal (wVar 4) aNil))))
  (wRet (wCall fs_sum_of (aVal (wFrz (wComp 1 [5,6] (wSrc (wBin opIx (wVar 0) (wC (.int 1)))) (tgName 0) (wTest (wCall fs_reaches_out (aVal (wVar 1) (aVal (wVar 2) (aVal (wBin opIx (wVar 0) (wC (.int 1))) (aVal (wBin opIx (wVar 0) (wC (.int 2))) aNil)))))) b_extra_of_0)) aNil)))))
theorem fmx {α β:Type} (p:α→Bool) (f:α→β) (xs:List α):xs.filterMap (fun x=>if p x=true then some (f x) else none)=(xs.filter p).map f:=by
 induction xs with
 | nil=>rfl
 | cons x xs ih =>
  rw [List.filterMap_cons,List.filter_cons]
  cases p x <;> simp [ih]
theorem sat_extra_of:∀ ls post,ls.length=5→fs_extra_of ls post→m_extra_of (ls++List.replicate 2 .un) (okEnd ls post):=by
 rintro ls post - ⟨R,g,h,p,q,rfl,hR,hp⟩
 have hfew:=hR.few
 unfold m_extra_of
 walk_at "w"
 refine ⟨by decide,by decide,Nat.le_trans hfew (by decide),?_⟩
 refine comp_pure (h:=fun a:Ask=>if reachB (h,p) (g,q) a.one a.other=true then some (frD a.size) else none) _ _ _ (fun a ha Q q'=>?_) fun l' cc=>?_
 ·
  simp only [askD] at q' ⊢
  walk_at "w"
  refine ⟨(h,p),(g,q),a.one,a.other,rfl,?_⟩
  walk_at "w"
  unfold b_extra_of_0
  cases e:reachB (h,p) (g,q) a.one a.other
  ·
   rw [e] at q'
   walk_at "w"
   exact q'
  ·
   rw [e] at q'
   walk_at "w"
   exact q'
 ·
  walk_at "w"
  have fl:=List.length_filter_le (fun a:Ask=>reachB (h,p) (g,q) a.one a.other) R.asks
  have e:R.asks.filterMap (fun a:Ask=>if reachB (h,p) (g,q) a.one a.other=true then some (frD a.size) else none)=((R.asks.filter fun a=>reachB (h,p) (g,q) a.one a.other).map (·.size)).map frD:=by
   rw [fmx (fun a:Ask=>reachB (h,p) (g,q) a.one a.other) (fun a=>frD a.size),List.map_map]
   rfl
  rw [e]
  obtain ⟨E,e0,e1,hd⟩:=hR.cd
  refine ⟨_,_,rfl,.inl rfl,by rw [List.length_map]; omega,fun q hq=>?_,.inr ⟨E,e0,Nat.lt_of_lt_of_le e1 (Nat.pow_le_pow_right (by decide) (by decide)),fun q hq=>?_⟩,⟨_,back_d (back_d (back_d (back_d (back_d back0)))),hp⟩⟩
  ·
   obtain ⟨a,ha,rfl⟩:=List.mem_map.mp hq
   exact (hR.rb (List.mem_filter.mp ha).1).mono (by decide)
  ·
   obtain ⟨a,ha,rfl⟩:=List.mem_map.mp hq
   exact hd a (List.mem_filter.mp ha).1
def fs__law_begun:FS:=fun ls post=>∃ (ns:List Int) (k:Int),ls=[.d (.lst (ns.map .int)),.d (.int k)]∧0≤k∧k≤100∧∀ a xs,StOk xs→post (.own a xs) ls
def m__law_begun:W Fl:=(wSeq (wSet 2 (wC (.int 0)))
  (wSeq (wIf (wTest (wBin opLt (wVar 1) (wCallD opLen (aVal (wVar 0) aNil)))) (wSet 2 (wBin opIx (wVar 0) (wVar 1))) wNext)
  (wRet (wLst (aVal (wVar 2) (aVal (wBin opMod (wBin opAdd (wBin opAdd (wBin opMod (wVar 2) (wC (.int 2147483587))) (wBin opMulI (wBin opMulI (wC (.int 48271)) (wVar 1)) (wVar 1))) (wC (.int 13))) (wC (.int 2147483587))) (aVal (wBin opGe (wVar 2) (wBin opPow (wC (.int 10)) (wC (.int 18)))) aNil)))))))
theorem sat__law_begun:∀ ls post,ls.length=2→fs__law_begun ls post→m__law_begun (ls++List.replicate 1 .un) (okEnd ls post):=by
 rintro ls post - ⟨ns,k,rfl,h0,h1,h⟩
 unfold m__law_begun
 have fin:∀ (c:Int) (ρ:Ev) (e:ρ=[.d (.lst (ns.map .int)),.d (.int k),.d (.int c)]),∀ a:Addr,okEnd [.d (.lst (ns.map .int)),.d (.int k)] post (.rt (.own a [.int c,.int ((c.fmod 2147483587+48271*k*k+13).fmod 2147483587),.bl (decide ((10:Int) ^ 18≤c))])) ρ:=fun c ρ e a=>by
  refine ⟨_,back_d (back_d back0),h a _ ⟨_,_,_,rfl,?_,?_⟩⟩
  ·
   rw [Int.fmod_eq_emod_of_nonneg _ (by decide)]; exact Int.emod_nonneg _ (by decide)
  ·
   rw [Int.fmod_eq_emod_of_nonneg _ (by decide)]
   have:=Int.emod_lt_of_pos (c.fmod 2147483587+48271*k*k+13) (b:=2147483587) (by decide)
   omega
 have hb1:bitsOk 48271:=bits_small (by decide)
 have hb2:bitsOk k:=bits_small (Nat.lt_of_le_of_lt (show k.natAbs≤100 by omega) (by decide))
 have hb3:bitsOk (48271*k):=bits_small (Nat.lt_of_le_of_lt (show (48271*k).natAbs≤4827100 by omega) (by decide))
 walk_at "w"
 try rw [List.length_map]
 split
 ·
  rename_i hk
  have hk:k < (ns.length:Int):=by simpa using hk
  have hi:k.toNat < ns.length:=by omega
  refine ⟨.int ns[k.toNat],atI_of h0 (by rw [List.getElem?_map,List.getElem?_eq_getElem hi]; rfl),?_⟩
  exact ⟨by decide,hb1,hb2,hb3,hb2,by decide,by decide,by decide,by decide,by decide,fin _ _ rfl⟩
 ·
  exact ⟨by decide,hb1,hb2,hb3,hb2,by decide,by decide,by decide,by decide,by decide,fin _ _ rfl⟩
def fs__law_take:FS:=fun ls post=>∃ (a:Addr) (xs:List D) (m:Int),ls=[.own a xs,.d (.int m)]∧StOk xs∧0 < m∧m≤10 ^ 60∧∀ (r:Int) (ys:List D),StOk ys→0≤r→r < m→post (.d (.int r)) [.own a ys,.d (.int m)]
def b__law_take_0:W Fl:=(wSeq (wSetV 0 (wC (.int 1)) (wBin opMod (wBin opAdd (wBin opMulI (wIsOwn 0 (wIxV 0 (wC (.int 1))) (wBin opIx (wVar 0) (wC (.int 1)))) (wC (.int 39373))) (wC (.int 17))) (wC (.int 2147483647))))
  (wSet 3 (wFrz (wBin opAdd (wBin opMulI (wVar 3) (wC (.int 2147483629))) (wBin opMod (wBin opMulI (wIsOwn 0 (wIxV 0 (wC (.int 1))) (wBin opIx (wVar 0) (wC (.int 1)))) (wIsOwn 0 (wIxV 0 (wC (.int 1))) (wBin opIx (wVar 0) (wC (.int 1))))) (wC (.int 2147483629)))))))
def m__law_take:W Fl:=(wSeq (wIf (wTest (wIsOwn 0 (wIxV 0 (wC (.int 2))) (wBin opIx (wVar 0) (wC (.int 2))))) (wSeq (wSet 2 (wBin opMod (wIsOwn 0 (wIxV 0 (wC (.int 0))) (wBin opIx (wVar 0) (wC (.int 0)))) (wVar 1)))
  (wSeq (wSetV 0 (wC (.int 0)) (wBin opDiv (wIsOwn 0 (wIxV 0 (wC (.int 0))) (wBin opIx (wVar 0) (wC (.int 0)))) (wVar 1)))
  (wSeq (wSetV 0 (wC (.int 2)) (wBin opGt (wIsOwn 0 (wIxV 0 (wC (.int 0))) (wBin opIx (wVar 0) (wC (.int 0)))) (wC (.int 0))))
  (wRet (wMove 2))))) wNext)
  (wSeq (wSet 3 (wC (.int 0)))
  (wSeq (wFor (wRng1 (wBin opAdd (wC (.int 1)) (wBin opMulI (wC (.int 8)) (wCallD opInt (aVal (wBin opGt (wVar 1) (wBin opPow (wC (.int 10)) (wC (.int 6)))) aNil))))) (tgName 4) b__law_take_0)
  (wRet (wBin opMod (wBin opDiv (wVar 3) (wC (.int 64))) (wVar 1))))))
theorem take_loop {a:Addr} {c:Int} {m x2:L} {post:Fl→Ev→Prop}:∀ (items:List D) (sd dr:Int) (j:Nat) (x4:L),j+items.length≤100→0≤sd→sd < 2147483647→0≤dr→dr < 2 ^ (40*j) →
  (∀ sd' dr' x',0≤sd'→sd' < 2147483647→0≤dr'→post .nx [.own a [.int c,.int sd',.bl false],m,x2,.d (.int dr'),x']) →
  wForL (tgName 4) b__law_take_0 items [.own a [.int c,.int sd,.bl false],m,x2,.d (.int dr),x4] post
 | [],sd,dr,j,x4,_,h0,h1,h2,h3,h=>h sd dr x4 h0 h1 h2
 | y::items,sd,dr,j,x4,hl,h0,h1,h2,h3,h=>by
  unfold wForL b__law_take_0
  walk_at "w"
  obtain ⟨r0,r1⟩:=fmod_rng (sd*39373+17) (m:=2147483647) (by decide)
  generalize (sd*39373+17).fmod 2147483647=s' at r0 r1 ⊢
  obtain ⟨q0,q1⟩:=fmod_rng (s'*s') (m:=2147483629) (by decide)
  generalize (s'*s').fmod 2147483629=t' at q0 q1 ⊢
  have hl':j+(items.length+1)≤100:=hl
  have b1:bitsOk sd:=bits_le (n:=40) h0 (by omega) (by decide)
  have b2:bitsOk s':=bits_le (n:=40) r0 (by omega) (by decide)
  have b3:bitsOk dr:=bits_le (n:=40*j) h2 h3 (by omega)
  have b4:bitsOk 39373:=bits_small (by decide)
  have b5:bitsOk 2147483629:=bits_small (by decide)
  refine ⟨b1,b4,by decide,b3,b5,b2,b2,by decide,?_⟩
  refine take_loop items s' (dr*2147483629+t') (j+1) _ (by omega) r0 r1 (by omega) ?_ h
  have e:(2:Int) ^ (40*(j+1))=2 ^ (40*j)*1099511627776:=by
   rw [Nat.mul_succ,Int.pow_add]; rfl
  omega
theorem sat__law_take:∀ ls post,ls.length=2→fs__law_take ls post→m__law_take (ls++List.replicate 3 .un) (okEnd ls post):=by
 rintro ls post - ⟨a,xs,m,rfl,⟨c,sd,t,rfl,h0,h1⟩,hm,hM,h⟩
 unfold m__law_take
 have hm0:m≠0:=by omega
 have hmz:=small9000 (by omega) hM
 cases t with
 | true =>
  walk_at "w"
  obtain ⟨r0,r1⟩:=fmod_rng c hm
  exact ⟨hm0,hm0,hmz,_,back_own List.mem_cons_self (back_d back0),h _ _ ⟨_,_,_,rfl,h0,h1⟩ r0 r1⟩
 | false =>
  walk_at "w"
  refine ⟨by decide,by decide,by decide,bits_small (by decide),bits_small (by split <;> decide),⟨by split <;> decide,by split <;> decide⟩,?_⟩
  refine take_loop (c:=c) _ sd 0 0 _ (by simp only [rngD,List.length_map,List.length_range]; split <;> decide) h0 h1 (by decide) (by decide) fun sd' dr' x' g0 g1 g2=>?_
  walk_at "w"
  obtain ⟨r0,r1⟩:=fmod_rng (dr'.fdiv 64) hm
  exact ⟨by decide,by decide,hm0,_,back_own List.mem_cons_self (back_d back0),h _ _ ⟨_,_,_,rfl,g0,g1⟩ r0 r1⟩
def fs__law_names:FS:=fun ls post=>∃ (a:Addr) (xs:List D) (many:Nat),ls=[.own a xs,.d (.int many)]∧StOk xs∧many≤26 ∧
 ∀ (zs:List Str) (c:Addr) (ys:List D),StOk ys→zs.length=many→(∀ z∈zs,NmOk z)→zs.Nodup→post (.own c (zs.map .str)) [.own a ys,.d (.int many)]
def b__law_names_0:W L:=(wBin opAdd (wBin opAdd (wSl2 (wVar 1) none (some (wVar 2))) (wBin opIx (wVar 3) (wBin opMod (wBin opAdd (wVar 4) (wVar 0)) (wC (.int 26))))) (wSl2 (wVar 1) (some (wBin opAdd (wVar 2) (wC (.int 1)))) none))
def c__law_names_3:W Fl:=(wRet (wComp 1 [3,4,2,5] (wRng1 (wVar 1)) (tgName 0) wTrue b__law_names_0))
def c__law_names_2:W Fl:=(wSeq (wSet 5 (wFrz (wCallB fs__law_take 0 0 (aVar 0 (aVal (wC (.int 26)) aNil)))))
  c__law_names_3)
def b__law_names_1:W L:=(wBin opIx (wVar 1) (wCallB fs__law_take 0 2 (aVar 2 (aVal (wC (.int 26)) aNil))))
def c__law_names_1:W Fl:=(wSeq (wSet 4 (wFrz (wCallB fs__law_take 0 0 (aVar 0 (aVal (wFrz (wCallD opLen (aVal (wVar 3) aNil))) aNil)))))
  c__law_names_2)
def c__law_names_0:W Fl:=(wSeq (wSet 3 (wFrz (wJoin "" (wComp 1 [2,0] (wRng1 (wBin opAdd (wC (.int 1)) (wCallB fs__law_take 0 0 (aVar 0 (aVal (wC (.int 8)) aNil))))) (tgName 0) wTrue b__law_names_1))))
  c__law_names_1)
def m__law_names:W Fl:=(wSeq (wSet 2 (wC (.str "abcdefghijklmnopqrstuvwxyz")))
  c__law_names_0)
theorem sat__law_names:∀ ls post,ls.length=2→fs__law_names ls post→m__law_names (ls++List.replicate 4 .un) (okEnd ls post):=by
 rintro ls post - ⟨a,xs,many,rfl,hx,hm,h⟩
 unfold m__law_names
 walk_at "w"
 unfold c__law_names_0
 walk_at "w"
 refine ⟨a,xs,8,rfl,hx,by decide,by decide,fun r ys hy r0 r1=>⟨ys,rfl,?_⟩⟩
 walk_at "w"
 refine ⟨⟨by omega,by omega⟩,?_⟩
 rw [rngD_map]
 refine ⟨by rw [List.length_map,List.length_range]; exact Nat.le_trans (show (1+r).toNat≤8 by omega) (by decide),?_⟩
 refine comp_inv _ (fun j ρ acc=>∃ (l:L) (ys:List D) (cs:List Nat),ρ=[l,.d (.str lettersS),.own a ys]∧StOk ys∧acc=cs.map (fun c=>D.str ⟨#[c]⟩)∧cs.length=j∧∀ c∈cs,LetterC c) _ _ ⟨_,ys,[],rfl,hy,rfl,rfl,fun c hc=>by simp at hc⟩ ?_ ?_
 ·
  rintro j x ρ acc hx ⟨l,ys,cs,rfl,hy,rfl,hl,hc⟩ Q hQ
  unfold wTrue b__law_names_1
  walk_at "w"
  refine ⟨a,ys,26,rfl,hy,by decide,by decide,fun q ws hw q0 q1=>⟨ws,rfl,by decide,_,letters_at q0 q1,?_⟩⟩
  refine hQ _ _ ⟨_,ws,cs++[q.toNat+97],rfl,hw,by simp,by simp [hl],fun c hm=>?_⟩
  rcases List.mem_append.mp hm with hm | hm
  ·
   exact hc c hm
  ·
   rw [List.mem_singleton.mp hm]
   unfold LetterC
   omega
 ·
  rintro ρ acc ⟨l,ys,cs,rfl,hy,rfl,hl,hc⟩
  rw [List.length_map,List.length_range] at hl
  walk_at "w"
  intro aa
  refine ⟨cs.map fun c=>⟨#[c]⟩,by simp,by rw [sum_ones,List.length_map]; show cs.length+cs.length*0≤_; omega,?_⟩
  have hb:NmOk (Txt.join "" (cs.map fun c=>(⟨#[c]⟩:Str))):=by
   refine ⟨?_,?_,?_⟩
   ·
    rw [join_ones_]; omega
   ·
    rw [join_ones_]; omega
   ·
    rw [join_ones_]; exact hc
  generalize Txt.join "" (cs.map fun c=>(⟨#[c]⟩:Str))=base at hb ⊢
  have hbl:=len_list base
  have hb1:=hb.lo
  have hb2:=hb.hi
  unfold c__law_names_1
  walk_at "w"
  refine ⟨Nat.le_trans (show base.length≤8 by omega) (by decide),a,ys,base.length,rfl,hy,by omega,by omega,fun p ws hw p0 p1=>⟨ws,rfl,?_⟩⟩
  unfold c__law_names_2
  walk_at "w"
  refine ⟨a,ws,26,rfl,hw,by decide,by decide,fun t vs hv t0 t1=>⟨vs,rfl,?_⟩⟩
  unfold c__law_names_3
  walk_at "w"
  refine ⟨⟨by omega,by omega⟩,?_⟩
  rw [rngD_map]
  refine ⟨by rw [List.length_map,List.length_range]; exact Nat.le_trans (show ((many:Int)).toNat≤26 by omega) (by decide),?_⟩
  refine comp_map (h:=fun k=>D.str (nameAt base p.toNat t.toNat k)) _ _ _ (fun k hk Q q=>?_) fun l'=>?_
  ·
   have hk:k < many:=by have:=List.mem_range.mp hk; omega
   unfold b__law_names_0
   walk_at "w"
   refine ⟨Nat.le_trans (show base.length≤8 by omega) (by decide),by decide,by decide,_,letters_at (i:=(t+(k:Int)).fmod 26) (fmod_rng _ (by decide)).1 (fmod_rng _ (by decide)).2,?_⟩
   have e1:=slice_to (x:=base) p0 (by omega)
   have e2:=slice_from (x:=base) (i:=p+1) (by omega) (by omega)
   have l1:(Txt.slice base none (some p)).length≤8:=by rw [len_list,e1,List.length_take]; omega
   have l2:(Txt.slice base (some (p+1)) none).length≤8:=by rw [len_list,e2,List.length_drop]; omega
   have e3:((t+(k:Int)).fmod 26).toNat=(t.toNat+k) % 26:=by
    rw [Int.fmod_eq_emod_of_nonneg _ (by decide)]
    omega
   have e4:Txt.slice base none (some p)++(⟨#[((t+(k:Int)).fmod 26).toNat+97]⟩:Str)++Txt.slice base (some (p+1)) none=nameAt base p.toNat t.toNat k:=by
    apply str_ext
    rw [cat_list,cat_list,e1,e2,e3]
    have:(p+1).toNat=p.toNat+1:=by omega
    simp [L2.nameAt,this]
   have one:∀ c:Nat,(⟨#[c]⟩:Str).length=1:=fun _=>rfl
   have lc:(Txt.slice base none (some p)++(⟨#[((t+(k:Int)).fmod 26).toNat+97]⟩:Str)).length≤9:=by
    rw [len_list,cat_list,List.length_append,← len_list,← len_list,one]; omega
   refine ⟨Nat.le_trans (show _≤9 by rw [one]; omega) (by decide),Nat.le_trans (show base.length≤8 by omega) (by decide),Nat.le_trans (Nat.add_le_add lc l2) (by decide),?_⟩
   rw [e4]
   exact q
  ·
   walk_at "w"
   intro c
   refine ⟨_,back_own (ys:=vs) (by simp) (back_d back0),?_⟩
   have e:List.map (fun k=>D.str (nameAt base p.toNat t.toNat k)) (List.range ((many:Int)).toNat)=((List.range many).map fun k=>nameAt base p.toNat t.toNat k).map D.str:=by
    rw [List.map_map,Int.toNat_natCast]
    rfl
   rw [e]
   refine h _ c vs hv (by simp) (fun z hz=>?_) (nodup_map List.nodup_range fun x hx y hy=>?_)
   ·
    obtain ⟨k,_,rfl⟩:=List.mem_map.mp hz
    exact nameAt_ok hb (by omega)
   ·
    exact nameAt_inj (by omega) (by have:=List.mem_range.mp hx; omega) (by have:=List.mem_range.mp hy; omega)
def fs__law_low:FS:=fun ls post=>∃ t b:Int,ls=[.d (.int t),.d (.int b)]∧b≠0∧b.natAbs < 2 ^ 9000∧post (.d (frD (Rat.divInt t b))) ls
def b__law_low_0:W Fl:=(wPar 2 3 (wBin opMod (wVar 3) (wVar 2)) (wVar 2))
def m__law_low:W Fl:=(wSeq (wSet 2 (wFrz (wCallD opAbs (aVal (wVar 0) aNil))))
  (wSeq (wSet 3 (wFrz (wCallD opAbs (aVal (wVar 1) aNil))))
  (wSeq (wWhile (wTest (wBin opNe (wVar 2) (wC (.int 0)))) b__law_low_0)
  (wSeq (wIf (wTest (wBin opLt (wVar 1) (wC (.int 0)))) (wSet 3 (wBin opSub (wC (.int 0)) (wVar 3))) wNext)
  (wRet (wTup (aVal (wBin opDiv (wVar 0) (wVar 3)) (aVal (wBin opDiv (wVar 1) (wVar 3)) aNil))))))))
theorem sat__law_low:∀ ls post,ls.length=2→fs__law_low ls post→m__law_low (ls++List.replicate 2 .un) (okEnd ls post):=by
 rintro ls post - ⟨t,b,rfl,hb,hz,h⟩
 unfold m__law_low
 walk_at "w"
 have h1:=share_ne (t:=t) hb
 have h2:=Nat.lt_of_le_of_lt (share_le (t:=t) hb) hz
 have fin:∀ {g:Int} {ρ:Ev},g=shareOf t b→g≠0∧g.natAbs < 2 ^ 9000∧g≠0∧g.natAbs < 2 ^ 9000∧2≤sizeLine∧okEnd [.d (.int t),.d (.int b)] post (.rt (.d (.tup [.int (t.fdiv g),.int (b.fdiv g)]))) ρ:=fun {g ρ} e=>by
  have e1:g≠0:=by rw [e]; exact h1
  have e2:g.natAbs < 2 ^ 9000:=by rw [e]; exact h2
  refine ⟨e1,e2,e1,e2,by decide,_,back_d (back_d back0),?_⟩
  rw [low_pair hb e]
  exact h
 refine ⟨fun n ρ=>∃ x y:Int,ρ=[.d (.int t),.d (.int b),.d (.int x),.d (.int y)]∧0≤x∧0≤y∧Int.gcd x y=Int.gcd t b∧n=x.natAbs,⟨_,_,_,rfl,by split <;> omega,by split <;> omega,?_,rfl⟩,?_⟩
 ·
  have e1:(if t < 0 then -t else t)=(t.natAbs:Int):=by split <;> omega
  have e2:(if b < 0 then -b else b)=(b.natAbs:Int):=by split <;> omega
  rw [e1,e2]
  simp [Int.gcd]
 ·
  rintro n ρ ⟨x,y,rfl,x0,y0,hg,rfl⟩
  unfold b__law_low_0
  walk_at "w"
  split
  ·
   rename_i hx
   have hx:x≠0:=by simpa using hx
   refine ⟨hx,_,natAbs_fmod_lt y hx,_,_,rfl,(fmod_rng y (by omega)).1,x0,?_,rfl⟩
   rw [Int.gcd_comm,gcd_fmod,Int.gcd_comm]
   exact hg
  ·
   rename_i hx
   have hx:x=0:=by simpa using hx
   subst hx
   have hy:y=(Int.gcd t b:Int):=by rw [← hg,Int.gcd_zero_left]; omega
   split
   ·
    rename_i hlt
    exact fin (by simp [shareOf,hlt,hy])
   ·
    rename_i hlt
    exact fin (by simp [shareOf,hlt,hy])
def fs__law_amount:FS:=fun ls post=>∃ (a:Addr) (xs:List D) (least kind:Int),ls=[.own a xs,.d (.int least),.d (.int kind)]∧StOk xs∧0≤least∧least≤1∧0≤kind∧kind < 5 ∧
 ∀ (q:Rat) (ys:List D),StOk ys→0≤q→(least=1→0 < q)→RB 60 q→post (.d (frD q)) [.own a ys,.d (.int least),.d (.int kind)]
def m__law_amount:W Fl:=(wSeq (wSet 3 (wFrz (wBin opAdd (wC (.int 1)) (wCallB fs__law_take 0 0 (aVar 0 (aVal (wBin opIx (wLst (aVal (wC (.int 1)) (aVal (wC (.int 1)) (aVal (wC (.int 4)) (aVal (wC (.int 12)) (aVal (wC (.int 12)) aNil)))))) (wVar 2)) aNil))))))
  (wSeq (wSet 4 (wFrz (wBin opAdd (wVar 1) (wCallB fs__law_take 0 0 (aVar 0 (aVal (wBin opIx (wLst (aVal (wC (.int 3)) (aVal (wC (.int 10)) (aVal (wC (.int 10)) (aVal (wC (.int 40)) (aVal (wBin opPow (wC (.int 10)) (wC (.int 12))) aNil)))))) (wVar 2)) aNil))))))
  (wRet (wCall fs__law_low (aVal (wVar 4) (aVal (wVar 3) aNil))))))
theorem amount_ok {t b:Int} (h0:0≤t) (h1:t < 2 ^ 59) (h2:0 < b) (h3:b < 2 ^ 59):0≤Rat.divInt t b∧(0 < t→0 < Rat.divInt t b)∧RB 60 (Rat.divInt t b):=by
 have e:=Rat.divInt_nonneg (a:=t) (b:=b) h0 (by omega)
 refine ⟨e,fun ht=>?_,RB.of_divInt (by omega) ?_ ?_⟩
 ·
  refine Rat.lt_of_le_of_ne e fun z=>?_
  have:Rat.divInt 0 1=Rat.divInt t b:=by rw [← z]; rfl
  rw [Rat.divInt_eq_divInt_iff (by decide) (by omega)] at this
  omega
 ·
  have:(2:Int) ^ 59=((2 ^ 59:Nat):Int):=by decide
  have:(2:Nat) ^ 59 < 2 ^ 60:=by decide
  omega
 ·
  have:(2:Int) ^ 59=((2 ^ 59:Nat):Int):=by decide
  have:(2:Nat) ^ 59 < 2 ^ 60:=by decide
  omega
theorem sat__law_amount:∀ ls post,ls.length=3→fs__law_amount ls post→m__law_amount (ls++List.replicate 2 .un) (okEnd ls post):=by
 rintro ls post - ⟨a,xs,least,kind,rfl,hx,l0,l1,k0,k1,h⟩
 have hk:kind=0∨kind=1∨kind=2∨kind=3∨kind=4:=by omega
 have fin:∀ (ys:List D) (r s:Int) (ρ:Ev),StOk ys→0≤r→r < 12→0≤s→s < 10 ^ 12→.own a ys∈ρ→fs__law_low [.d (.int (least+s)),.d (.int (1+r))] fun r' _=>okEnd [.own a xs,.d (.int least),.d (.int kind)] post (.rt r') ρ:=by
  intro ys r s ρ hy r0 r1 s0 s1 hm
  obtain ⟨a1,a2,a3⟩:=amount_ok (t:=least+s) (b:=1+r) (by omega) (by omega) (by omega) (by omega)
  exact ⟨_,_,rfl,by omega,small9000 (by omega) (by omega),_,back_own hm (back_d (back_d back0)),h _ ys hy a1 (fun e=>a2 (by omega)) a3⟩
 unfold m__law_amount
 rcases hk with rfl | rfl | rfl | rfl | rfl
 all_goals
  walk_at "w"
  refine ⟨by decide,fun _=>?_⟩
  refine ⟨a,xs,_,rfl,hx,by decide,by decide,fun r ys hy r0 r1=>⟨ys,rfl,?_⟩⟩
  walk_at "w"
  refine ⟨by decide,by decide,by decide,by decide,fun _=>?_⟩
  refine ⟨a,ys,_,rfl,hy,by decide,by decide,fun s zs hz s0 s1=>⟨zs,rfl,?_⟩⟩
  walk_at "w"
  exact fin zs r s _ hz r0 (by omega) s0 (Int.lt_of_lt_of_le s1 (by decide)) (by simp)
def fs__law_rooms:FS:=fun ls post=>∃ (a:Addr) (xs:List D) (n:Nat) (kind:Int),ls=[.own a xs,.d (.int n),.d (.int kind)]∧StOk xs∧1≤n∧n≤1000∧0≤kind∧kind < 5 ∧
 ∀ (qs:List Rat) (c:Addr) (ys:List D),StOk ys→qs.length=n→(∀ q∈qs,0 < q∧RB 60 q)→post (.own c (qs.map frD)) [.own a ys,.d (.int n),.d (.int kind)]
def b__law_rooms_0:W Fl:=(wSeq (wSet 6 (wFrz (wCallB fs__law_amount 0 0 (aVar 0 (aVal (wC (.int 1)) (aVal (wVar 2) aNil))))))
  (wDrop (wApp 5 (wBin opIx (wLst (aVal (wVar 4) (aVal (wVar 6) aNil))) (wCallD opInt (aVal (wBin opEq (wVar 3) (wC (.int 2))) aNil))))))
def c__law_rooms_4:W Fl:=(wRet (wMove 5))
def c__law_rooms_3:W Fl:=(wSeq (wWhile (wTest (wBin opLt (wIsOwn 5 (wLenV 5) (wCallD opLen (aVal (wVar 5) aNil))) (wVar 1))) b__law_rooms_0)
  c__law_rooms_4)
def c__law_rooms_2:W Fl:=(wSeq (wSet 5 (wLst (aVal (wVar 4) aNil)))
  c__law_rooms_3)
def c__law_rooms_1:W Fl:=(wSeq (wIf (wTest (wBin opEq (wVar 3) (wC (.int 0)))) (wSet 4 (wTup (aVal (wC (.int 1)) (aVal (wC (.int 1)) aNil)))) wNext)
  c__law_rooms_2)
def c__law_rooms_0:W Fl:=(wSeq (wSet 4 (wFrz (wCallB fs__law_amount 0 0 (aVar 0 (aVal (wC (.int 1)) (aVal (wVar 2) aNil))))))
  c__law_rooms_1)
def m__law_rooms:W Fl:=(wSeq (wSet 3 (wFrz (wCallB fs__law_take 0 0 (aVar 0 (aVal (wC (.int 3)) aNil)))))
  c__law_rooms_0)
theorem sat__law_rooms:∀ ls post,ls.length=3→fs__law_rooms ls post→m__law_rooms (ls++List.replicate 4 .un) (okEnd ls post):=by
 rintro ls post - ⟨a,xs,n,kind,rfl,hx,n1,n2,k0,k1,h⟩
 have one:frD 1=.tup [.int 1,.int 1]:=rfl
 have rest:∀ (alike:Int) (p:Rat) (ys:List D),StOk ys→0 < p→RB 60 p →
   c__law_rooms_2 [.own a ys,.d (.int n),.d (.int kind),.d (.int alike),.d (frD p),.un,.un] (okEnd [.own a xs,.d (.int n),.d (.int kind)] post):=by
  intro alike p ys hy hp hb
  unfold c__law_rooms_2
  walk_at "w"
  refine ⟨by decide,fun c=>?_⟩
  unfold c__law_rooms_3
  walk_at "w"
  refine ⟨fun m ρ=>∃ (qs:List Rat) (zs:List D) (l:L),ρ=[.own a zs,.d (.int n),.d (.int kind),.d (.int alike),.d (frD p),.own c (qs.map frD),l]∧StOk zs∧qs.length≤n∧m=n - qs.length∧∀ q∈qs,0 < q∧RB 60 q,⟨_,[p],ys,_,rfl,hy,n1,rfl,by intro q hq; rw [List.mem_singleton.mp hq]; exact ⟨hp,hb⟩⟩,?_⟩
  rintro m ρ ⟨qs,zs,l,rfl,hz,hl,rfl,hq⟩
  walk_at "w"
  try rw [List.length_map]
  split
  ·
   rename_i hlt
   unfold b__law_rooms_0
   walk_at "w"
   refine ⟨a,zs,1,kind,rfl,hz,by decide,by decide,k0,k1,fun q ws hw q0 q1 qb=>⟨ws,rfl,?_⟩⟩
   walk_at "w"
   have hs:qs.length < sizeLine:=by exact Nat.lt_of_le_of_lt (show qs.length≤1000 by omega) (by decide)
   have more:∀ q':Rat,0 < q'→RB 60 q'→∃ m,m < n - qs.length∧∃ (qs':List Rat) (zs:List D) (l:L),[L.own a ws,.d (.int n),.d (.int kind),.d (.int alike),.d (frD p),.own c (qs.map frD++[frD q']),.d (frD q)]=[.own a zs,.d (.int n),.d (.int kind),.d (.int alike),.d (frD p),.own c (qs'.map frD),l]∧StOk zs∧qs'.length≤n∧m=n - qs'.length∧∀ q∈qs',0 < q∧RB 60 q:=by
    intro q' p0 pb
    refine ⟨n - (qs++[q']).length,by rw [List.length_append]; simp only [List.length_singleton]; omega,qs++[q'],ws,.d (frD q),by rw [List.map_append]; rfl,hw,by rw [List.length_append]; simp only [List.length_singleton]; omega,rfl,fun z hz=>?_⟩
    rcases List.mem_append.mp hz with hz | hz
    ·
     exact hq z hz
    ·
     rw [List.mem_singleton.mp hz]; exact ⟨p0,pb⟩
   refine ⟨by decide,fun _=>?_⟩
   by_cases h2:alike=2
   ·
    refine ⟨frD q,?_,hs,more q (q1 rfl) qb⟩
    simp [h2,atI_1]
   ·
    refine ⟨frD p,?_,hs,more p hp hb⟩
    simp [h2,atI_0]
  ·
   have e:qs.length=n:=by omega
   unfold c__law_rooms_4
   walk_at "w"
   exact ⟨_,back_own (by simp) (back_d (back_d back0)),h qs c zs hz e hq⟩
 unfold m__law_rooms
 walk_at "w"
 refine ⟨a,xs,3,rfl,hx,by decide,by decide,fun r ys hy r0 r1=>⟨ys,rfl,?_⟩⟩
 unfold c__law_rooms_0
 walk_at "w"
 refine ⟨a,ys,1,kind,rfl,hy,by decide,by decide,k0,k1,fun q zs hz q0 q1 qb=>⟨zs,rfl,?_⟩⟩
 unfold c__law_rooms_1
 walk_at "w"
 split
 ·
  exact ⟨by decide,rest r 1 zs hz (by decide) ⟨by decide,by decide⟩⟩
 ·
  exact rest r q zs hz (q1 rfl) qb
def fs__law_ends:FS:=fun ls post=>∃ (a:Addr) (xs:List D) (shape k:Int) (n:Nat),ls=[.own a xs,.d (.int shape),.d (.int n),.d (.int k)]∧StOk xs∧2≤n∧n≤1000∧0≤k∧k≤1000 ∧
 ∀ (i j:Nat) (ys:List D),StOk ys→i < n→j < n→i≠j→post (.d (.tup [.int i,.int j])) [.own a ys,.d (.int shape),.d (.int n),.d (.int k)]
def m__law_ends:W Fl:=(wSeq (wSet 4 (wFrz (wCallB fs__law_take 0 0 (aVar 0 (aVal (wVar 2) aNil)))))
  (wSeq (wSet 5 (wBin opMod (wBin opAdd (wBin opAdd (wVar 4) (wC (.int 1))) (wCallB fs__law_take 0 0 (aVar 0 (aVal (wBin opSub (wVar 2) (wC (.int 1))) aNil)))) (wVar 2)))
  (wSeq (wIf (wTest (wBin opEq (wVar 1) (wC (.int 1)))) (wRet (wTup (aVal (wBin opMod (wVar 3) (wVar 2)) (aVal (wBin opMod (wBin opAdd (wVar 3) (wBin opDiv (wVar 2) (wC (.int 2)))) (wVar 2)) aNil)))) wNext)
  (wSeq (wIf (wTest (wBin opEq (wVar 1) (wC (.int 2)))) (wRet (wTup (aVal (wFrz (wBin opMulI (wBin opMod (wVar 3) (wC (.int 2))) (wBin opSub (wVar 2) (wC (.int 1))))) (aVal (wFrz (wBin opMulI (wBin opSub (wC (.int 1)) (wBin opMod (wVar 3) (wC (.int 2)))) (wBin opSub (wVar 2) (wC (.int 1))))) aNil)))) wNext)
  (wSeq (wIf (wTest (wBin opEq (wVar 1) (wC (.int 3)))) (wRet (wTup (aVal (wC (.int 0)) (aVal (wFrz (wBin opAdd (wC (.int 1)) (wBin opMod (wVar 5) (wBin opSub (wVar 2) (wC (.int 1)))))) aNil)))) wNext)
  (wRet (wTup (aVal (wVar 4) (aVal (wVar 5) aNil)))))))))
theorem sat__law_ends:∀ ls post,ls.length=4→fs__law_ends ls post→m__law_ends (ls++List.replicate 2 .un) (okEnd ls post):=by
 rintro ls post - ⟨a,xs,shape,k,n,rfl,hx,n2,n3,k0,k1,h⟩
 have fin:∀ (ys:List D) (i j:Int) (ρ:Ev),StOk ys→0≤i→i < n→0≤j→j < n→i≠j→.own a ys∈ρ→okEnd [.own a xs,.d (.int shape),.d (.int n),.d (.int k)] post (.rt (.d (.tup [.int i,.int j]))) ρ:=by
  intro ys i j ρ hy i0 i1 j0 j1 hij hm
  have:=h i.toNat j.toNat ys hy (by omega) (by omega) (by omega)
  rw [Int.toNat_of_nonneg i0,Int.toNat_of_nonneg j0] at this
  exact ⟨_,back_own hm (back_d (back_d (back_d back0))),this⟩
 unfold m__law_ends
 walk_at "w"
 refine ⟨a,xs,n,rfl,hx,by omega,by omega,fun r ys hy r0 r1=>⟨ys,rfl,?_⟩⟩
 walk_at "w"
 refine ⟨a,ys,n - 1,rfl,hy,by omega,by omega,fun s zs hz s0 s1=>⟨zs,rfl,?_⟩⟩
 walk_at "w"
 refine ⟨by omega,?_⟩
 have e1:=Int.fmod_eq_emod_of_nonneg (r+1+s) (b:=n) (by omega)
 have e2:=Int.fmod_eq_emod_of_nonneg k (b:=n) (by omega)
 have e3:=Int.fdiv_eq_ediv_of_nonneg (n:Int) (b:=2) (by omega)
 have e4:=Int.fmod_eq_emod_of_nonneg (k+(n:Int) / 2) (b:=n) (by omega)
 have e5:=Int.fmod_eq_emod_of_nonneg k (b:=2) (by omega)
 have e6:=Int.fmod_eq_emod_of_nonneg ((r+1+s) % (n:Int)) (b:=(n:Int) - 1) (by omega)
 rw [e1]
 have o0:=Int.emod_nonneg (r+1+s) (b:=n) (by omega)
 have o1:=Int.emod_lt_of_pos (r+1+s) (b:=n) (by omega)
 have o2:(r+1+s) % (n:Int)≠r:=fun z=>by
  by_cases q:r+1+s < n
  ·
   rw [Int.emod_eq_of_lt (by omega) q] at z; omega
  ·
   have:(r+1+s) % (n:Int)=r+1+s - n:=by
    rw [← Int.sub_emod_right,Int.emod_eq_of_lt (by omega) (by omega)]
   omega
 split
 ·
  walk_at "w"
  rw [e2,e3,e4]
  refine ⟨by omega,by decide,by decide,by omega,by decide,fin zs _ _ _ hz (Int.emod_nonneg _ (by omega)) (Int.emod_lt_of_pos _ (by omega)) (Int.emod_nonneg _ (by omega)) (Int.emod_lt_of_pos _ (by omega)) (fun z=>?_) (by simp)⟩
  have h1:(k+(n:Int) / 2 - k) % n=0:=Int.emod_eq_emod_iff_emod_sub_eq_zero.mp z.symm
  have e9:k+(n:Int) / 2 - k=n / 2:=by omega
  rw [e9,Int.emod_eq_of_lt (by omega) (by omega)] at h1
  omega
 ·
  walk_at "w"
  split
  ·
   walk_at "w"
   rw [e5]
   have m0:=Int.emod_two_eq k
   refine ⟨by decide,bits_small (by omega),bits_small (by omega),by decide,bits_small (by omega),bits_small (by omega),by decide,?_⟩
   rcases m0 with m0 | m0
   ·
    rw [m0]
    exact fin zs _ _ _ hz (by omega) (by omega) (by omega) (by omega) (by omega) (by simp)
   ·
    rw [m0]
    exact fin zs _ _ _ hz (by omega) (by omega) (by omega) (by omega) (by omega) (by simp)
  ·
   walk_at "w"
   split
   ·
    walk_at "w"
    rw [e6]
    have p0:=Int.emod_nonneg ((r+1+s) % (n:Int)) (b:=(n:Int) - 1) (by omega)
    have p1:=Int.emod_lt_of_pos ((r+1+s) % (n:Int)) (b:=(n:Int) - 1) (by omega)
    exact ⟨by omega,by decide,fin zs _ _ _ hz (by omega) (by omega) (by omega) (by omega) (by omega) (by simp)⟩
   ·
    walk_at "w"
    exact ⟨by decide,fin zs _ _ _ hz (by omega) (by omega) (by omega) (by omega) (Ne.symm o2) (by simp)⟩
/-- a ring that is drawn: of at most so many places and asks -/
structure Drawn (most count:Nat) (R:Ring):Prop where
 ok:R.Ok
 hi:R.n≤most
 few:R.asks.length≤count
 nms:(∀ a∈R.asks,NmOk a.nm)∧(R.asks.map (·.nm)).Nodup
 tt:∀ a∈R.asks,RB 60 a.size
theorem Drawn.nt {m c:Nat} {R:Ring} (h:Drawn m c R):∀ a∈R.asks,NmOk a.nm∧RB 60 a.size:=fun a ha=>⟨h.nms.1 a ha,h.tt a ha⟩
def fs__law_ring:FS:=fun ls post=>∃ (ns:List Int) (at_ most count:Nat),ls=[.d (.lst (ns.map .int)),.d (.int at_),.d (.int most),.d (.int count)]∧at_≤90∧2≤most∧most≤12∧count≤20 ∧
 ∀ R:Ring,Drawn most count R→post (.d (ringD R)) ls
def b__law_ring_0:W Fl:=(wSeq (wAsgT [13,14] (wCallB fs__law_ends 0 4 (aVar 4 (aVal (wVar 8) (aVal (wVar 5) (aVal (wVar 12) aNil))))))
  (wDrop (wApp 11 (wTup (aVal (wBin opIx (wVar 9) (wVar 12)) (aVal (wVar 13) (aVal (wVar 14) (aVal (wFrz (wCallB fs__law_amount 0 4 (aVar 4 (aVal (wC (.int 0)) (aVal (wBin opIx (wVar 7) (wC (.int 1))) aNil))))) aNil))))))))
def c__law_ring_9:W Fl:=(wRet (wTup (aVal (wVar 10) (aVal (wVar 11) aNil))))
def c__law_ring_8:W Fl:=(wSeq (wFor (wRng1 (wVar 6)) (tgName 12) b__law_ring_0)
  c__law_ring_9)
def c__law_ring_7:W Fl:=(wSeq (wSet 11 (wLst aNil))
  c__law_ring_8)
def c__law_ring_6:W Fl:=(wSeq (wSet 4 (wCall fs__law_begun (aVal (wVar 0) (aVal (wFrz (wBin opAdd (wVar 1) (wC (.int 2)))) aNil))))
  c__law_ring_7)
def c__law_ring_5:W Fl:=(wSeq (wSet 10 (wFrz (wCall fs__law_rooms (aVal (wCall fs__law_begun (aVal (wVar 0) (aVal (wFrz (wBin opAdd (wVar 1) (wC (.int 1)))) aNil))) (aVal (wVar 5) (aVal (wBin opIx (wVar 7) (wC (.int 0))) aNil))))))
  c__law_ring_6)
def c__law_ring_4:W Fl:=(wSeq (wSet 9 (wFrz (wCallB fs__law_names 0 4 (aVar 4 (aVal (wVar 6) aNil)))))
  c__law_ring_5)
def c__law_ring_3:W Fl:=(wSeq (wSet 8 (wFrz (wCallB fs__law_take 0 4 (aVar 4 (aVal (wC (.int 6)) aNil)))))
  c__law_ring_4)
def c__law_ring_2:W Fl:=(wSeq (wSet 7 (wFrz (wLst (aVal (wFrz (wCallB fs__law_take 0 4 (aVar 4 (aVal (wC (.int 5)) aNil)))) (aVal (wFrz (wCallB fs__law_take 0 4 (aVar 4 (aVal (wC (.int 5)) aNil)))) aNil)))))
  c__law_ring_3)
def c__law_ring_1:W Fl:=(wSeq (wSet 6 (wFrz (wCallB fs__law_take 0 4 (aVar 4 (aVal (wFrz (wBin opAdd (wVar 3) (wC (.int 1)))) aNil)))))
  c__law_ring_2)
def c__law_ring_0:W Fl:=(wSeq (wSet 5 (wFrz (wBin opAdd (wC (.int 2)) (wCallB fs__law_take 0 4 (aVar 4 (aVal (wBin opSub (wVar 2) (wC (.int 1))) aNil))))))
  c__law_ring_1)
def m__law_ring:W Fl:=(wSeq (wSet 4 (wCall fs__law_begun (aVal (wVar 0) (aVal (wVar 1) aNil))))
  c__law_ring_0)
theorem ring_loop {S a1 m3 c3 rms:D} {b c:Addr} {n shape kind:Nat} {zs:List Str} {post:Fl→Ev→Prop} (hn:2≤n) (hn2:n≤12) (hk:kind < 5) (k0:Nat) (hzl:zs.length≤20) (hz:∀ z∈zs,NmOk z) (xs:List D) (hx:StOk xs) (x13 x14:L)
  (fin:∀ (as:List Ask) (ys:List D) (x12 x13 x14:L),(∀ a∈as,AskOk n a∧RB 60 a.size)→as.map (·.nm)=zs→post .nx [.d S,.d a1,.d m3,.d c3,.own b ys,.d (.int n),.d (.int (zs.length:Int)),.d (.lst [.int k0,.int kind]),.d (.int shape),.d (.lst (zs.map .str)),.d rms,.own c (as.map askD),x12,x13,x14]) :
  wForL (tgName 12) b__law_ring_0 ((List.range zs.length).map fun (i:Nat)=>D.int (i:Int)) [.d S,.d a1,.d m3,.d c3,.own b xs,.d (.int n),.d (.int (zs.length:Int)),.d (.lst [.int k0,.int kind]),.d (.int shape),.d (.lst (zs.map .str)),.d rms,.own c [],.un,x13,x14] post:=by
 refine forL_inv _ (fun j ρ=>∃ (as:List Ask) (ys:List D) (x12 x13 x14:L),ρ=[.d S,.d a1,.d m3,.d c3,.own b ys,.d (.int n),.d (.int (zs.length:Int)),.d (.lst [.int k0,.int kind]),.d (.int shape),.d (.lst (zs.map .str)),.d rms,.own c (as.map askD),x12,x13,x14]∧StOk ys∧(∀ a∈as,AskOk n a∧RB 60 a.size)∧as.map (·.nm)=zs.take j) _ ⟨[],xs,_,_,_,rfl,hx,fun a ha=>by simp at ha,rfl⟩ ?_ ?_
 ·
  rintro j x ρ hj ⟨as,ys,x12,x13,x14,rfl,hy,ha,hn'⟩ Q h1 h2 h3 h4
  have hj':j < zs.length:=by
   have:=(List.getElem?_eq_some_iff.mp hj).1
   simpa using this
  have ex:x=.int (j:Int):=by
   rw [List.getElem?_map,List.getElem?_range hj'] at hj
   exact (Option.some.inj hj).symm
  subst ex
  unfold b__law_ring_0
  walk_at "w"
  refine ⟨b,ys,shape,j,n,rfl,hy,hn,by omega,by omega,by omega,fun i k ws hw i1 k1 hik=>⟨ws,rfl,?_⟩⟩
  walk_at "w"
  refine ⟨.str zs[j],atI_map hj',?_⟩
  refine ⟨b,ws,0,kind,rfl,hw,by decide,by decide,by omega,by omega,fun q vs hv q0 _ qb=>⟨vs,rfl,?_⟩⟩
  walk_at "w"
  have hlen:as.length=j:=by
   have:=congrArg List.length hn'
   rw [List.length_map,List.length_take] at this
   omega
  refine ⟨by decide,by rw [hlen]; exact Nat.lt_of_lt_of_le hj' (Nat.le_trans hzl (by decide)),h1 _ ⟨as++[⟨zs[j],i,k,q⟩],vs,_,_,_,by rw [List.map_append]; rfl,hv,fun a hm=>?_,?_⟩⟩
  ·
   rcases List.mem_append.mp hm with hm | hm
   ·
    exact ha a hm
   ·
    rw [List.mem_singleton.mp hm]
    exact ⟨⟨i1,k1,hik,q0,lt_of_RB qb,(hz _ (List.getElem_mem hj')).ok⟩,qb⟩
  ·
   rw [List.map_append,hn',List.take_succ,List.getElem?_eq_getElem hj']
   rfl
 ·
  rintro ρ ⟨as,ys,x12,x13,x14,rfl,hy,ha,hn'⟩
  rw [List.length_map,List.length_range,List.take_of_length_le (Nat.le_refl _)] at hn'
  exact fin as ys x12 x13 x14 ha hn'
theorem sat__law_ring:∀ ls post,ls.length=4→fs__law_ring ls post→m__law_ring (ls++List.replicate 11 .un) (okEnd ls post):=by
 rintro ls post - ⟨ns,at_,most,count,rfl,ha,m2,m12,c20,h⟩
 unfold m__law_ring
 walk_at "w"
 refine ⟨ns,at_,rfl,by omega,by omega,fun b xs hx=>?_⟩
 unfold c__law_ring_0
 walk_at "w"
 refine ⟨b,xs,(most:Int) - 1,rfl,hx,by omega,by omega,fun r ys hy r0 r1=>⟨ys,rfl,?_⟩⟩
 unfold c__law_ring_1
 walk_at "w"
 refine ⟨b,ys,(count:Int)+1,rfl,hy,by omega,by omega,fun s zs hz s0 s1=>⟨zs,rfl,?_⟩⟩
 unfold c__law_ring_2
 walk_at "w"
 refine ⟨b,zs,5,rfl,hz,by decide,by decide,fun k1 ws hw k10 k11=>⟨ws,rfl,?_⟩⟩
 walk_at "w"
 refine ⟨b,ws,5,rfl,hw,by decide,by decide,fun k2 vs hv k20 k21=>⟨vs,rfl,?_⟩⟩
 walk_at "w"
 refine ⟨by decide,fun kk=>?_⟩
 unfold c__law_ring_3
 walk_at "w"
 refine ⟨b,vs,6,rfl,hv,by decide,by decide,fun sh us hu sh0 sh1=>⟨us,rfl,?_⟩⟩
 unfold c__law_ring_4
 walk_at "w"
 obtain ⟨many,rfl⟩:=Int.eq_ofNat_of_zero_le s0
 obtain ⟨pl,epl⟩:∃ pl:Nat,2+r=(pl:Int):=Int.eq_ofNat_of_zero_le (by omega)
 obtain ⟨sh',rfl⟩:=Int.eq_ofNat_of_zero_le sh0
 obtain ⟨k1',rfl⟩:=Int.eq_ofNat_of_zero_le k10
 obtain ⟨k2',rfl⟩:=Int.eq_ofNat_of_zero_le k20
 rw [epl]
 refine ⟨b,us,many,rfl,hu,by omega,fun nms c ts ht hnl hnm hnd=>⟨ts,rfl,?_⟩⟩
 unfold c__law_ring_5
 walk_at "w"
 refine ⟨ns,at_+1,rfl,by omega,by omega,fun b2 xs2 hx2=>?_⟩
 refine ⟨b2,xs2,pl,k1',rfl,hx2,by omega,by omega,by omega,by omega,fun qs c2 ys2 hy2 hql hq=>?_⟩
 unfold c__law_ring_6
 walk_at "w"
 refine ⟨ns,at_+2,rfl,by omega,by omega,fun b3 xs3 hx3=>?_⟩
 unfold c__law_ring_7
 walk_at "w"
 refine ⟨by decide,fun c3=>?_⟩
 unfold c__law_ring_8
 walk_at "w"
 refine ⟨⟨by omega,by omega⟩,?_⟩
 rw [rngD_map,Int.toNat_natCast,← hnl]
 refine ring_loop (n:=pl) (by omega) (by omega) (by omega) k1' (by omega) hnm xs3 hx3 _ _ fun as ys' x12 x13 x14 hao han=>?_
 walk_at "w"
 unfold c__law_ring_9
 walk_at "w"
 refine ⟨by decide,_,back_d (back_d (back_d (back_d back0))),h ⟨qs,as⟩ ?_⟩
 have hal:as.length=nms.length:=by rw [← han,List.length_map]
 refine ⟨⟨?_,?_,?_,hq,?_,cd_of (fun a ha=>(hao a ha).2) (by show as.length≤20; omega)⟩,?_,?_,⟨?_,?_⟩,fun a ha=>(hao a ha).2⟩
 ·
  show 2≤qs.length; omega
 ·
  show qs.length≤12; omega
 ·
  show as.length≤20; omega
 ·
  show ∀ a∈as,AskOk qs.length a; rw [hql]; exact fun a ha=>(hao a ha).1
 ·
  show qs.length≤most; omega
 ·
  show as.length≤count; omega
 ·
  intro a ha
  exact hnm _ (by rw [← han]; exact List.mem_map_of_mem ha)
 ·
  show (as.map (·.nm)).Nodup
  rw [han]
  exact hnd
def fs__law_copied:FS:=fun ls post=>∃ R:Ring,ls=[.d (ringD R)]∧post (.d (ringD R)) ls
def m__law_copied:W Fl:=(wRet (wTup (aVal (wFrz (wCallD opList (aVal (wBin opIx (wVar 0) (wC (.int 0))) aNil))) (aVal (wFrz (wCallD opList (aVal (wBin opIx (wVar 0) (wC (.int 1))) aNil))) aNil))))
theorem sat__law_copied:∀ ls post,ls.length=1→fs__law_copied ls post→m__law_copied (ls++List.replicate 0 .un) (okEnd ls post):=by
 rintro ls post - ⟨R,rfl,h⟩
 unfold m__law_copied
 walk_at "w"
 exact fun _ _=>⟨by decide,_,back_d back0,h⟩
def fs__law_four:FS:=fun ls post=>∃ (a:Addr) (xs:List D) (n:Nat),ls=[.own a xs,.d (.int (n:Int))]∧StOk xs∧2≤n∧n≤12∧∀ (g h p q:Nat) (c:Addr) (ys:List D),StOk ys→g≤h→h≤p→p≤q→q < n→post (.own c [.int (g:Int),.int (h:Int),.int (p:Int),.int (q:Int)]) [.own a ys,.d (.int (n:Int))]
def b__law_four_0:W Fl:=(wDrop (wApp 2 (wBin opAdd (wIsOwn 2 (wIxV 2 (wUn opNeg (wC (.int 1)))) (wBin opIx (wVar 2) (wUn opNeg (wC (.int 1))))) (wCallB fs__law_take 0 0 (aVar 0 (aVal (wBin opSub (wVar 1) (wIsOwn 2 (wIxV 2 (wUn opNeg (wC (.int 1)))) (wBin opIx (wVar 2) (wUn opNeg (wC (.int 1)))))) aNil))))))
def m__law_four:W Fl:=(wSeq (wSet 2 (wLst (aVal (wFrz (wCallB fs__law_take 0 0 (aVar 0 (aVal (wVar 1) aNil)))) aNil)))
  (wSeq (wWhile (wTest (wBin opLt (wIsOwn 2 (wLenV 2) (wCallD opLen (aVal (wVar 2) aNil))) (wC (.int 4)))) b__law_four_0)
  (wRet (wMove 2))))
theorem sat__law_four:∀ ls post,ls.length=2→fs__law_four ls post→m__law_four (ls++List.replicate 1 .un) (okEnd ls post):=by
 rintro ls post - ⟨a,xs,n,rfl,hx,n2,n12,h⟩
 unfold m__law_four
 walk_at "w"
 refine ⟨a,xs,n,rfl,hx,by omega,by omega,fun r ys hy r0 r1=>⟨ys,rfl,?_⟩⟩
 walk_at "w"
 obtain ⟨r,rfl⟩:=Int.eq_ofNat_of_zero_le r0
 refine ⟨by decide,fun c=>?_⟩
 refine ⟨fun m ρ=>∃ (pre:List Nat) (x:Nat) (ys:List D),ρ=[.own a ys,.d (.int (n:Int)),.own c ((pre++[x]).map fun (t:Nat)=>D.int (t:Int))]∧StOk ys∧x < n∧(pre++[x]).Pairwise (·≤·)∧pre.length≤3∧m=3 - pre.length,⟨_,[],r,ys,rfl,hy,by omega,List.pairwise_singleton _ _,by decide,rfl⟩,?_⟩
 rintro m ρ ⟨pre,x,ys,rfl,hy,hx,hp,hl,rfl⟩
 have ll:((pre++[x]).map fun (t:Nat)=>D.int (t:Int)).length=pre.length+1:=by simp
 walk_at "w"
 have el:(((pre++[x]).length:Nat):Int)=(pre.length:Int)+1:=by simp
 rw [el]
 by_cases c3:pre.length=3
 ·
  rw [if_neg (by omega)]
  obtain ⟨g,h',p,rfl⟩:∃ g h' p,pre=[g,h',p]:=by
   match pre,c3 with
   | [g,h',p],_=>exact ⟨g,h',p,rfl⟩
  simp only [List.cons_append,List.nil_append,List.pairwise_cons,List.mem_cons,List.not_mem_nil,or_false,forall_eq_or_imp,forall_eq] at hp
  exact ⟨_,back_own List.mem_cons_self (back_d back0),h g h' p x c ys hy hp.1.1 hp.2.1.1 hp.2.2.1 hx⟩
 ·
  rw [if_pos (by omega)]
  have lst:((pre++[x]).map fun (t:Nat)=>D.int (t:Int))[((pre++[x]).map fun (t:Nat)=>D.int (t:Int)).length - 1]?=some (.int (x:Int)):=by
   rw [ll]
   simp
  unfold b__law_four_0
  walk_at "w"
  refine ⟨_,atI_neg1 lst,?_⟩
  walk_at "w"
  refine ⟨_,atI_neg1 lst,?_⟩
  walk_at "w"
  refine ⟨a,ys,(n:Int) - (x:Int),rfl,hy,by omega,by omega,fun r2 zs hz r20 r21=>⟨zs,rfl,?_⟩⟩
  obtain ⟨r2,rfl⟩:=Int.eq_ofNat_of_zero_le r20
  walk_at "w"
  refine ⟨Nat.lt_of_le_of_lt (show (pre++[x]).length≤4 by rw [List.length_append]; simp; omega) (by decide),3 - (pre++[x]).length,by rw [List.length_append]; simp; omega,pre++[x],x+r2,zs,?_,hz,by omega,?_,by rw [List.length_append]; simp; omega,rfl⟩
  ·
   rw [List.map_append (l₁:=pre++[x])]
   rfl
  ·
   rw [List.pairwise_append]
   refine ⟨hp,List.pairwise_singleton _ _,fun y hy z hz=>?_⟩
   rw [List.mem_singleton.mp hz]
   rcases List.mem_append.mp hy with hy | hy
   ·
    have:=(List.pairwise_append.mp hp).2.2 y hy x (List.mem_singleton_self x)
    omega
   ·
    rw [List.mem_singleton.mp hy]
    omega
def fs__law_plus:FS:=fun ls post=>∃ p q:Rat,ls=[.d (frD p),.d (frD q)]∧RB 400000 p∧RB 400000 q∧p.den*q.den < 2 ^ 9000∧post (.d (frD (p+q))) ls
def m__law_plus:W Fl:=(wRet (wCall fs__law_low (aVal (wFrz (wBin opAdd (wBin opMulI (wBin opIx (wVar 0) (wC (.int 0))) (wBin opIx (wVar 1) (wC (.int 1)))) (wBin opMulI (wBin opIx (wVar 1) (wC (.int 0))) (wBin opIx (wVar 0) (wC (.int 1)))))) (aVal (wFrz (wBin opMulI (wBin opIx (wVar 0) (wC (.int 1))) (wBin opIx (wVar 1) (wC (.int 1))))) aNil))))
theorem sat__law_plus:∀ ls post,ls.length=2→fs__law_plus ls post→m__law_plus (ls++List.replicate 0 .un) (okEnd ls post):=by
 rintro ls post - ⟨p,q,rfl,hp,hq,hz,h⟩
 unfold m__law_plus
 walk_at "w"
 refine ⟨hp.bn (by decide),hq.bd (by decide),hq.bn (by decide),hp.bd (by decide),hp.bd (by decide),hq.bd (by decide),_,_,rfl,dens_ne p q,by rw [dens_abs]; exact hz,_,back_d (back_d back0),?_⟩
 rw [add_eq]
 exact h
theorem use_lplus {p q:Rat} {post:L→List L→Prop} (hp:RB 4400 p) (hq:RB 4400 q) (h:post (.d (frD (p+q))) [.d (frD p),.d (frD q)]):fs__law_plus [.d (frD p),.d (frD q)] post :=
 ⟨p,q,rfl,hp.mono (by decide),hq.mono (by decide),Nat.lt_of_lt_of_le (mul_lt_pow hp.2 hq.2) (Nat.pow_le_pow_right (by decide) (by decide)),h⟩
def fs__law_extra:FS:=fun ls post=>∃ (R:Ring) (g h p q:Nat),ls=[.d (ringD R),.d (.lst [.int (g:Int),.int (h:Int),.int (p:Int),.int (q:Int)])]∧R.Ok∧g≤h∧p≤q∧post (.d (frD (extraQ R.asks g h p q))) ls
def b__law_extra_0:W L:=(wNotV (wTest (wChain opLt opLe (wBin opIx (wVar 1) (wC (.int 0))) (wVar 0) (wBin opIx (wVar 1) (wC (.int 3))))))
def c__law_extra_b1_1:W Fl:=(wIf (wOr (wAnd (wTest (wBin opIx (wVar 7) (wC (.int 0)))) (wTest (wBin opIx (wVar 8) (wC (.int 1))))) (wAnd (wTest (wBin opIx (wVar 7) (wC (.int 1)))) (wTest (wBin opIx (wVar 8) (wC (.int 0)))))) (wSet 2 (wCall fs__law_plus (aVal (wVar 2) (aVal (wVar 6) aNil)))) wNext)
def b__law_extra_1:W L:=(wChain opLt opLe (wBin opIx (wVar 1) (wC (.int 1))) (wVar 0) (wBin opIx (wVar 1) (wC (.int 2))))
def c__law_extra_b1_0:W Fl:=(wSeq (wSet 8 (wComp 1 [1] (wSrc (wTup (aVal (wVar 4) (aVal (wVar 5) aNil)))) (tgName 0) wTrue b__law_extra_0))
  c__law_extra_b1_1)
def b__law_extra_2:W Fl:=(wSeq (wSet 7 (wComp 1 [1] (wSrc (wTup (aVal (wVar 4) (aVal (wVar 5) aNil)))) (tgName 0) wTrue b__law_extra_1))
  c__law_extra_b1_0)
def m__law_extra:W Fl:=(wSeq (wSet 2 (wTup (aVal (wC (.int 0)) (aVal (wC (.int 1)) aNil))))
  (wSeq (wFor (wSrc (wBin opIx (wVar 0) (wC (.int 1)))) (tgTup [3,4,5,6]) b__law_extra_2)
  (wRet (wMove 2))))
theorem extra_RBs {R:Ring} (hR:R.Ok) {as:List Ask} (hs:∀ a∈as,a∈R.asks) (hl:as.length≤20) (g h p q:Nat):RB 1546 (extraQ as g h p q):=by
 obtain ⟨D,d0,d1,hd⟩:=hR.cd
 have hm:∀ q0∈(as.filter (fun a=>reachB (h,p) (g,q) a.one a.other)).map (·.size),∃ a∈R.asks,q0=a.size:=fun q0 hq=>by
  obtain ⟨a,ha,rfl⟩:=List.mem_map.mp hq
  exact ⟨a,hs a (List.mem_filter.mp ha).1,rfl⟩
 have h1:(extraQ as g h p q).den∣D:=den_sum d0 _ fun q0 hq=>by
  obtain ⟨a,ha,rfl⟩:=hm q0 hq
  exact hd a ha
 have h0:0≤extraQ as g h p q:=sumQ_nonneg _ _ fun a ha=>(hR.ask a (hs a (List.mem_filter.mp ha).1)).size
 have hV:(0:Rat) < ((2 ^ 300:Nat):Rat):=Rat.natCast_pos.mpr (Nat.pow_pos (by decide))
 have h2:extraQ as g h p q≤_:=val_sum (Rat.le_of_lt hV) _ fun q0 hq=>by
  obtain ⟨a,ha,rfl⟩:=hm q0 hq
  exact (hR.ask a ha).lt
 have h3:((as.filter (fun a=>reachB (h,p) (g,q) a.one a.other)).map (·.size)).length≤20:=by
  rw [List.length_map]
  have:=List.length_filter_le (fun a:Ask=>reachB (h,p) (g,q) a.one a.other) as
  omega
 have h4:extraQ as g h p q < ((2 ^ 306:Nat):Rat):=by
  have e:((2 ^ 306:Nat):Rat)=64*((2 ^ 300:Nat):Rat):=by
   rw [show (2 ^ 306:Nat)=64*2 ^ 300 by rw [show 306=6+300 from rfl,Nat.pow_add],Rat.natCast_mul]
   rfl
  rw [e]
  generalize ((2 ^ 300:Nat):Rat)=V at *
  generalize ((as.filter (fun a=>reachB (h,p) (g,q) a.one a.other)).map (·.size)).length=m at *
  have h5:(m:Rat)*V≤20*V:=Rat.mul_le_mul_of_nonneg_right (by exact_mod_cast h3) (Rat.le_of_lt hV)
  grind
 exact (RB.of_val (v:=306) (d:=1240) h0 (Nat.lt_of_le_of_lt (Nat.le_of_dvd d0 h1) d1) h4).mono (by decide)
theorem sat__law_extra:∀ ls post,ls.length=2→fs__law_extra ls post→m__law_extra (ls++List.replicate 7 .un) (okEnd ls post):=by
 rintro ls post - ⟨R,g,h,p,q,rfl,hR,gh,pq,hp⟩
 unfold m__law_extra
 walk_at "w"
 refine ⟨by decide,?_⟩
 refine forT_inv (enc:=askD) R.asks (fun pre ρ=>∃ x3 x4 x5 x6 x7 x8,ρ=[.d (ringD R),.d (.lst [.int (g:Int),.int (h:Int),.int (p:Int),.int (q:Int)]),.d (frD (extraQ pre g h p q)),x3,x4,x5,x6,x7,x8]) _ ⟨_,_,_,_,_,_,rfl⟩ ?_ ?_
 ·
  rintro pre b suf ρ hsp ⟨x3,x4,x5,x6,x7,x8,rfl⟩ Q h1 h2 h3 h4
  have hb:b∈R.asks:=by rw [hsp]; simp
  unfold b__law_extra_2
  simp only [askD]
  walk_at "w"
  rw [show [D.int (b.one:Int),D.int (b.other:Int)]=([b.one,b.other]:List Nat).map fun (t:Nat)=>D.int (t:Int) from rfl]
  refine ⟨by decide,by decide,comp_map (h:=fun (x:Nat)=>D.bl (within (h,p) x)) _ _ _ (fun x hx Q hq=>?_) fun l a1=>?_⟩
  ·
   unfold b__law_extra_1
   walk_at "w"
   have e:within (h,p) x=if (h:Int) < (x:Int) then decide ((x:Int)≤(p:Int)) else false:=by
    unfold within
    by_cases c:h < x
    ·
     rw [if_pos (by omega),decide_eq_decide]
     omega
    ·
     rw [if_neg (by omega)]
     exact decide_eq_false (by omega)
   rw [e] at hq
   split
   ·
    rename_i c
    rw [if_pos c] at hq
    exact hq
   ·
    rename_i c
    rw [if_neg c] at hq
    exact hq
  rw [List.nil_append]
  unfold c__law_extra_b1_0
  walk_at "w"
  rw [show [D.int (b.one:Int),D.int (b.other:Int)]=([b.one,b.other]:List Nat).map fun (t:Nat)=>D.int (t:Int) from rfl]
  refine ⟨by decide,by decide,comp_map (h:=fun (x:Nat)=>D.bl (!within (g,q) x)) _ _ _ (fun x hx Q hq=>?_) fun l a2=>?_⟩
  ·
   unfold b__law_extra_0
   walk_at "w"
   have e:within (g,q) x=if (g:Int) < (x:Int) then decide ((x:Int)≤(q:Int)) else false:=by
    unfold within
    by_cases c:g < x
    ·
     rw [if_pos (by omega),decide_eq_decide]
     omega
    ·
     rw [if_neg (by omega)]
     exact decide_eq_false (by omega)
   rw [e] at hq
   split
   ·
    rename_i c
    rw [if_pos c] at hq
    simpa using hq
   ·
    rename_i c
    rw [if_neg c] at hq
    exact hq
  rw [List.nil_append]
  unfold c__law_extra_b1_1
  walk_at "w"
  have hlen:pre.length≤20:=by
   have:=congrArg List.length hsp
   have:=hR.few
   rw [List.length_append,List.length_cons] at *
   omega
  have hqb:RB 1546 (extraQ pre g h p q):=extra_RBs hR (fun a ha=>by rw [hsp]; simp [ha]) hlen g h p q
  have e1:extraQ (pre++[b]) g h p q=if reachB (h,p) (g,q) b.one b.other=true then extraQ pre g h p q+b.size else extraQ pre g h p q:=by
   unfold extraQ
   rw [List.filter_append,List.map_append]
   split
   ·
    rename_i e
    rw [List.filter_cons,if_pos e]
    exact sumQ_append1 _ _
   ·
    rename_i e
    rw [List.filter_cons,if_neg e]
    simp
  rw [← reach_or gh pq b.one b.other] at e1
  have hrb:=hR.rb hb
  cases w1:within (h,p) b.one <;> cases w2:within (h,p) b.other <;> cases v1:within (g,q) b.one <;> cases v2:within (g,q) b.other <;> simp only [w1,w2,v1,v2,Bool.not_true,Bool.not_false,Bool.and_true,Bool.and_false,Bool.or_false,Bool.or_true,Bool.false_or,Bool.true_or,Bool.true_and,Bool.false_and,Bool.false_eq_true,Bool.true_eq_false,reduceIte,if_true,if_false] at e1⊢<;>
  first
  | exact h1 _ ⟨_,_,_,_,_,_,by rw [e1]⟩
  | (refine use_lplus (hqb.mono (by decide)) (hrb.mono (by decide)) ?_; walk_at "w"; exact h1 _ ⟨_,_,_,_,_,_,by rw [e1]⟩)
 ·
  rintro ρ ⟨x3,x4,x5,x6,x7,x8,rfl⟩
  walk_at "w"
  exact ⟨_,back_d (back_d back0),hp⟩
def fs__law_times:FS:=fun ls post=>∃ p q:Rat,ls=[.d (frD p),.d (frD q)]∧RB 4400 p∧RB 4400 q∧post (.d (frD (p*q))) ls
def m__law_times:W Fl:=(wRet (wCall fs__law_low (aVal (wFrz (wBin opMulI (wBin opIx (wVar 0) (wC (.int 0))) (wBin opIx (wVar 1) (wC (.int 0))))) (aVal (wFrz (wBin opMulI (wBin opIx (wVar 0) (wC (.int 1))) (wBin opIx (wVar 1) (wC (.int 1))))) aNil))))
theorem sat__law_times:∀ ls post,ls.length=2→fs__law_times ls post→m__law_times (ls++List.replicate 0 .un) (okEnd ls post):=by
 rintro ls post - ⟨p,q,rfl,hp,hq,h⟩
 unfold m__law_times
 walk_at "w"
 refine ⟨hp.bn (by decide),hq.bn (by decide),hp.bd (by decide),hq.bd (by decide),_,_,rfl,dens_ne p q,?_,_,back_d (back_d back0),?_⟩
 ·
  rw [dens_abs]
  exact Nat.lt_of_lt_of_le (mul_lt_pow hp.2 hq.2) (Nat.pow_le_pow_right (by decide) (by decide))
 ·
  rw [mul_eq]
  exact h
def fs__law_apart:FS:=fun ls post=>∃ (c:Nat×Nat) (i j:Nat),ls=[.d (cutP c),.d (.int i),.d (.int j)]∧post (.d (.bl (apart c i j))) ls
def m__law_apart:W Fl:=(wRet (wBin opNe (wChain opLt opLe (wBin opIx (wVar 0) (wC (.int 0))) (wVar 1) (wBin opIx (wVar 0) (wC (.int 1)))) (wChain opLt opLe (wBin opIx (wVar 0) (wC (.int 0))) (wVar 2) (wBin opIx (wVar 0) (wC (.int 1))))))
theorem sat__law_apart:∀ ls post,ls.length=3→fs__law_apart ls post→m__law_apart (ls++List.replicate 0 .un) (okEnd ls post):=by
 rintro ls post - ⟨c,i,j,rfl,h⟩
 unfold m__law_apart
 walk_at "w"
 have w1:∀ p:Nat,within c p=decide ((c.1:Int) < p∧(p:Int)≤c.2):=fun p=>by unfold within; rw [decide_eq_decide]; omega
 unfold apart at h
 rw [w1,w1] at h
 by_cases a1:(c.1:Int) < i <;> by_cases a2:(c.1:Int) < j <;> by_cases b1:(i:Int)≤c.2 <;> by_cases b2:(j:Int)≤c.2
 all_goals
  simp only [a1,a2,b1,b2,if_true,if_false,true_and,false_and,and_self,decide_true,decide_false,not_true_eq_false,not_false_eq_true] at h ⊢
  exact ⟨_,back_d (back_d (back_d back0)),h⟩
def fs__law_across:FS:=fun ls post=>∃ (R:Ring) (c:Nat×Nat),ls=[.d (ringD R),.d (cutP c)]∧R.Ok∧post (.d (frD (acrossQ R.asks c))) ls
def b__law_across_0:W Fl:=(wIf (wTest (wCall fs__law_apart (aVal (wVar 1) (aVal (wVar 4) (aVal (wVar 5) aNil))))) (wSet 2 (wCall fs__law_plus (aVal (wVar 2) (aVal (wVar 6) aNil)))) wNext)
def m__law_across:W Fl:=(wSeq (wSet 2 (wTup (aVal (wC (.int 0)) (aVal (wC (.int 1)) aNil))))
  (wSeq (wFor (wSrc (wBin opIx (wVar 0) (wC (.int 1)))) (tgTup [3,4,5,6]) b__law_across_0)
  (wRet (wMove 2))))
theorem sat__law_across:∀ ls post,ls.length=2→fs__law_across ls post→m__law_across (ls++List.replicate 5 .un) (okEnd ls post):=by
 rintro ls post - ⟨R,c,rfl,hR,h⟩
 have hfew:=hR.few
 unfold m__law_across
 walk_at "w"
 refine ⟨by decide,?_⟩
 refine forT_inv (enc:=askD) R.asks (fun pre ρ=>∃ (q:Rat) (x3 x4 x5 x6:L),ρ=[.d (ringD R),.d (cutP c),.d (frD q),x3,x4,x5,x6]∧q=acrossQ pre c) _ ⟨0,_,_,_,_,rfl,rfl⟩ ?_ ?_
 ·
  rintro pre A suf ρ hsp ⟨q,x3,x4,x5,x6,rfl,hq⟩ Q h1 h2 h3 h4
  have hmA:A∈R.asks:=by rw [hsp]; simp
  have hqb:RB 1546 q:=by
   rw [hq]
   refine across_RBs hR (fun a ha=>by rw [hsp]; simp [ha]) ?_ c
   have:=congrArg List.length hsp
   rw [List.length_append,List.length_cons] at this
   omega
  have hA:AskOk R.n A:=hR.ask A (by rw [hsp]; simp)
  have hlen:pre.length < 20:=by
   have:=congrArg List.length hsp
   rw [List.length_append,List.length_cons] at this
   omega
  unfold b__law_across_0
  walk_at "w"
  refine ⟨c,A.one,A.other,rfl,?_⟩
  walk_at "w"
  have e1:acrossQ (pre++[A]) c=if apart c A.one A.other=true then q+A.size else q:=by
   unfold acrossQ at hq ⊢
   rw [List.filter_append,List.map_append,hq]
   split
   ·
    rename_i e
    rw [List.filter_cons,if_pos e]
    exact sumQ_append1 _ _
   ·
    rename_i e
    rw [List.filter_cons,if_neg e]
    simp
  cases e:apart c A.one A.other
  ·
   rw [e] at e1
   walk_at "w"
   refine h1 _ ⟨q,_,_,_,_,rfl,e1.symm⟩
  ·
   rw [e] at e1
   walk_at "w"
   refine use_lplus (hqb.mono (by decide)) ((hR.rb hmA).mono (by decide)) ?_
   walk_at "w"
   refine h1 _ ⟨_,_,_,_,_,rfl,e1.symm⟩
 ·
  rintro ρ ⟨q,x3,x4,x5,x6,rfl,hq⟩
  walk_at "w"
  rw [hq]
  exact ⟨_,back_d (back_d back0),h⟩
def fs_law:FS:=fun ls post=>∃ ns:List Int,ls=[.d (.lst (ns.map .int))]∧ns.length≤63∧post (.d (.bl true)) ls
theorem law_holds {ns:List Int} (hl:ns.length≤63):fs_law [.d (.lst (ns.map .int))] (fun r _=>r=.d (.bl true)):=⟨ns,rfl,hl,rfl⟩
def b_law_0:W Fl:=(wSeq (wIf (wPeekB 6 (wTest (wBin opNe (wPeek 6 (wBin opIx (wVar 6) (wVar 5))) (wIsOwn 4 (wIxV 4 (wVar 5)) (wBin opIx (wVar 4) (wVar 5)))))) (wRet (wC (.bl false))) wNext)
  (wDrop (wAppIn 6 (wVar 5) (wC .non))))
def c_law_8:W Fl:=(wRet (wAndV (wPeek 4 (wBin opEq (wCall fs_table_of (aVal (wVar 1) aNil)) (wVar 4))) (wBin opEq (wVar 1) (wVar 2))))
def b_law_1:W Fl:=(wSeq (wAsgL [8,9,10,11] (wCall fs__law_four (aVal (wCall fs__law_begun (aVal (wVar 0) (aVal (wVar 7) aNil))) (aVal (wVar 3) aNil))))
  (wSeq (wSet 12 (wFrz (wCall fs_extra_of (aVal (wVar 1) (aVal (wVar 8) (aVal (wVar 9) (aVal (wVar 10) (aVal (wVar 11) aNil))))))))
  (wSeq (wIf (wTest (wBin opNe (wVar 12) (wCall fs__law_extra (aVal (wVar 1) (aVal (wFrz (wLst (aVal (wVar 8) (aVal (wVar 9) (aVal (wVar 10) (aVal (wVar 11) aNil)))))) aNil))))) (wRet (wC (.bl false))) wNext)
  (wSeq (wSet 13 (wFrz (wCall fs__law_plus (aVal (wFrz (wCall fs__law_plus (aVal (wPeek 6 (wBin opIx (wBin opIx (wVar 6) (wVar 8)) (wVar 9))) (aVal (wPeek 6 (wBin opIx (wBin opIx (wVar 6) (wVar 10)) (wVar 11))) aNil)))) (aVal (wFrz (wCall fs__law_times (aVal (wTup (aVal (wC (.int 2)) (aVal (wC (.int 1)) aNil))) (aVal (wVar 12) aNil)))) aNil)))))
  (wIf (wTest (wBin opNe (wCall fs__law_plus (aVal (wPeek 6 (wBin opIx (wBin opIx (wVar 6) (wVar 8)) (wVar 10))) (aVal (wPeek 6 (wBin opIx (wBin opIx (wVar 6) (wVar 9)) (wVar 11))) aNil))) (wVar 13))) (wRet (wC (.bl false))) wNext)))))
def c_law_7:W Fl:=(wSeq (wFor (wRng1 (wVar 3)) (tgName 5) b_law_0)
  c_law_8)
def b_law_2:W L:=(wVar 0)
def c_law_6:W Fl:=(wSeq (wFor (wRng2 (wC (.int 3)) (wCallD opMax (aVal (wC (.int 4)) (aVal (wFrz (wCallD opMin (aVal (wFrz (wCallD opLen (aVal (wVar 0) aNil))) (aVal (wC (.int 33)) aNil)))) aNil)))) (tgName 7) b_law_1)
  c_law_7)
def c_law_5:W Fl:=(wSeq (wIf (wOr (wNot (wTest (wPeek 6 (wUn (opIsT "list") (wVar 6))))) (wOr (wPeekB 4 (wPeekB 6 (wTest (wBin opNe (wVar 6) (wVar 4))))) (wTest (wBin opNe (wPeek 6 (wComp 1 [] (wSrc (wVar 6)) (tgName 0) (wNot (wTest (wUn (opIsT "list") (wVar 0)))) b_law_2)) (wLst aNil))))) (wRet (wC (.bl false))) wNext)
  c_law_6)
def b_law_3:W L:=(wCall fs__law_across (aVal (wVar 1) (aVal (wTup (aVal (wFrz (wCallD opMin (aVal (wVar 2) (aVal (wVar 0) aNil)))) (aVal (wFrz (wCallD opMax (aVal (wVar 2) (aVal (wVar 0) aNil)))) aNil))) aNil)))
def b_law_4:W Fl:=(wDrop (wApp 4 (wComp 1 [1,5] (wRng1 (wVar 3)) (tgName 0) wTrue b_law_3)))
def c_law_4:W Fl:=(wSeq (wFzS 4 (wSet 6 (wCall fs_table_of (aVal (wVar 1) aNil))))
  c_law_5)
def c_law_3:W Fl:=(wSeq (wFor (wRng1 (wVar 3)) (tgName 5) b_law_4)
  c_law_4)
def c_law_2:W Fl:=(wSeq (wSet 4 (wLst aNil))
  c_law_3)
def c_law_1:W Fl:=(wSeq (wSet 3 (wFrz (wCallD opLen (aVal (wBin opIx (wVar 1) (wC (.int 0))) aNil))))
  c_law_2)
def c_law_0:W Fl:=(wSeq (wSet 2 (wFrz (wCall fs__law_copied (aVal (wVar 1) aNil))))
  c_law_1)
def m_law:W Fl:=(wSeq (wSet 1 (wFrz (wCall fs__law_ring (aVal (wVar 0) (aVal (wC (.int 0)) (aVal (wC (.int 12)) (aVal (wC (.int 20)) aNil)))))))
  c_law_0)
theorem atI_rng {f:Nat→D} {n g:Nat} (h:g < n):atI ((List.range n).map f) (g:Int)=some (f g):=atI_of (by omega) (by rw [Int.toNat_natCast,List.getElem?_map,List.getElem?_range h]; rfl)
theorem row_at {R:Ring} {g h:Nat} (gh:g≤h) (hn:h < R.n):atI (rowL R g) (h:Int)=some (frD (acrossQ R.asks (g,h))):=by
 unfold rowL
 rw [atI_rng hn,Nat.min_eq_left gh,Nat.max_eq_right gh]
theorem box_cell {R:Ring} {ad:Nat→Addr} {g h:Nat} {K:L→Prop} (gh:g≤h) (hn:h < R.n) (hk:K (.d (frD (acrossQ R.asks (g,h))))):eraK (boxL R.n ad (rowL R)) fun xs=>∃ v,atI xs (g:Int)=some v∧opIx v (D.int (h:Int)) fun r=>noLr r=true∧K r:=by
 refine box_era ad _ _ _ ⟨_,atI_rng (by omega),?_⟩
 walk_at "w"
 refine ⟨_,row_at gh hn,?_⟩
 walk_at "w"
 exact hk
theorem box_len {n:Nat} {ad:Nat→Addr} {f:Nat→List D}:(boxL n ad f).length=n:=by unfold boxL; simp
theorem box_at {n j:Nat} {ad:Nat→Addr} {f:Nat→List D} (h:j < n):(boxL n ad f)[j]?=some (.own (ad j) (f j)):=by
 unfold boxL
 rw [List.getElem?_map,List.getElem?_range h]
 rfl
theorem box_set {n j:Nat} {ad:Nat→Addr} {f f':Nat→List D} (h:∀ i,i≠j→f' i=f i):(boxL n ad f).set j (.own (ad j) (f' j))=boxL n ad f':=by
 unfold boxL
 refine List.ext_getElem (by simp) fun i h1 h2=>?_
 rw [List.getElem_set]
 simp only [List.getElem_map,List.getElem_range]
 split
 ·
  rename_i e
  subst e
  rfl
 ·
  rename_i e
  rw [h i fun z=>e z.symm]
theorem sat_law:∀ ls post,ls.length=1→fs_law ls post→m_law (ls++List.replicate 13 .un) (okEnd ls post):=by
 rintro ls post - ⟨ns,rfl,hl,h⟩
 unfold m_law
 walk_at "w"
 refine ⟨ns,0,12,20,rfl,by decide,by decide,by decide,by decide,fun R hD=>?_⟩
 have hR:=hD.ok
 have hhi:=hR.hi
 walk_at "w"
 unfold c_law_0
 walk_at "w"
 refine ⟨R,rfl,?_⟩
 walk_at "w"
 unfold c_law_1
 walk_at "w"
 unfold c_law_2
 walk_at "w"
 refine ⟨by decide,fun a4=>?_⟩
 unfold c_law_3
 walk_at "w"
 refine ⟨⟨by omega,by omega⟩,?_⟩
 rw [Int.toNat_natCast]
 refine forR0_inv R.n (fun j ρ=>∃ x5,flatL x5=true∧ρ=[.d (.lst (ns.map .int)),.d (ringD R),.d (ringD R),.d (.int (R.n:Int)),.own a4 ((List.range j).map fun g=>D.lst (rowL R g)),x5,.un,.un,.un,.un,.un,.un,.un,.un]) _ ⟨_,rfl,rfl⟩ ?_ ?_
 ·
  rintro j ρ hj ⟨x5,f5,rfl⟩ Q h1 h2 h3 h4
  unfold b_law_4
  walk_at "w"
  rw [Int.toNat_natCast,rngD_map]
  refine ⟨⟨by omega,by omega⟩,by rw [List.length_map,List.length_range]; exact size99 (by omega),comp_map (h:=fun (k:Nat)=>frD (acrossQ R.asks (min j k,max j k))) _ [] _ (fun k hk Q hq=>?_) fun l1 a2=>?_⟩
  ·
   unfold b_law_3
   walk_at "w"
   refine ⟨by decide,R,(min j k,max j k),by rw [mm_cut],hR,hq⟩
  ·
   walk_at "w"
   refine ⟨by rw [List.length_range]; exact Nat.lt_of_lt_of_le (by omega:j < 99) (size99 (Nat.le_refl _)),h1 _ ⟨.d (.int (j:Int)),rfl,?_⟩⟩
   rw [List.range_succ,List.map_append]
   rfl
 rintro ρ ⟨x5,f5,rfl⟩
 unfold c_law_4
 walk_at "w"
 refine ⟨R,rfl,hR,fun a6 ad=>?_⟩
 unfold c_law_5
 walk_at "w"
 rw [f5]
 have sh:okD 3 (D.lst ((List.range R.n).map fun g=>D.lst (rowL R g)))=true:=by
  simp only [okD]
  refine okDs_map _ fun g _=>?_
  simp only [okD]
  unfold rowL
  exact okDs_map _ fun k _=>okD_fr _ _
 refine ⟨rfl,box_era ad _ _ _ ⟨rfl,box_era ad _ _ _ ⟨shape_ok sh (by decide),shape_ok sh (by decide),?_⟩⟩⟩
 rw [if_neg (by rw [eqD_refl sh]; decide)]
 refine ⟨rfl,box_era ad _ _ _ ⟨by rw [List.length_map,List.length_range]; exact size99 (by omega),?_⟩⟩
 refine comp_pure (h:=fun _:Nat=>none) _ _ _ (fun g hg Q q'=>?_) fun l' cc=>?_
 ·
  walk_at "w"
  exact q'
 rw [show (List.range R.n).filterMap (fun _:Nat=>(none:Option D))=[] by simp]
 have sh0:okD 3 (D.lst [])=true:=rfl
 refine ⟨rfl,by decide,fun _=>⟨shape_ok sh0 (by decide),shape_ok sh0 (by decide),?_⟩⟩
 rw [if_neg (by decide)]
 unfold c_law_6
 walk_at "w"
 refine ⟨⟨by omega,by omega⟩,⟨?_,?_⟩,?_⟩
 ·
  split <;> split <;> omega
 ·
  split <;> split <;> omega
 refine forR_inv 3 _ (fun j ρ=>∃ x7 x8 x9 x10 x11 x12 x13,(flatL x7=true∧flatL x8=true∧flatL x9=true∧flatL x10=true∧flatL x11=true∧flatL x12=true∧flatL x13=true)∧ρ=[.d (.lst (ns.map .int)),.d (ringD R),.d (ringD R),.d (.int (R.n:Int)),.d (.lst ((List.range R.n).map fun g=>D.lst (rowL R g))),x5,.bx (some a6) (boxL R.n ad (rowL R)),x7,x8,x9,x10,x11,x12,x13]) _ ⟨_,_,_,_,_,_,_,⟨rfl,rfl,rfl,rfl,rfl,rfl,rfl⟩,rfl⟩ ?_ ?_
 ·
  rintro j ρ hj ⟨x7,x8,x9,x10,x11,x12,x13,⟨f7,f8,f9,f10,f11,f12,f13⟩,rfl⟩ Q h1 h2 h3 h4
  have hj':j < 33:=by split at hj <;> split at hj <;> omega
  unfold b_law_1
  walk_at "w"
  refine ⟨ns,3+(j:Int),rfl,by omega,by omega,fun b xs hx=>?_⟩
  refine ⟨b,xs,R.n,rfl,hx,hR.lo,hR.hi,fun g h p q c ys hy gh hp pq qn=>?_⟩
  walk_at "w"
  refine ⟨R,g,h,p,q,rfl,hR,?_⟩
  walk_at "w"
  refine ⟨by decide,fun _=>⟨R,g,h,p,q,rfl,hR,gh,pq,?_⟩⟩
  have ex:RB 1546 (extraQ R.asks g h p q):=extra_RBs hR (fun _ h=>h) hR.few g h p q
  have s1:=okD_fr 3 (extraQ R.asks g h p q)
  walk_at "w"
  refine ⟨by rw [f5,f13]; rfl,box_cell gh (by omega) ⟨by rw [f5,f13]; rfl,box_cell pq qn ?_⟩⟩
  have A:=fun c=>across_RB hR c
  refine use_lplus ((A _).mono (by decide)) ((A _).mono (by decide)) ?_
  walk_at "w"
  have m2:RB 2 (2:Rat):=⟨by decide,by decide⟩
  refine ⟨by decide,2,extraQ R.asks g h p q,rfl,m2.mono (by decide),ex.mono (by decide),?_⟩
  walk_at "w"
  refine use_lplus (((A _).add (A _)).mono (by decide)) ((m2.mul ex).mono (by decide)) ?_
  walk_at "w"
  refine ⟨f5,box_cell (by omega) (by omega) ⟨f5,box_cell (by omega) (by omega) ?_⟩⟩
  refine use_lplus ((A _).mono (by decide)) ((A _).mono (by decide)) ?_
  rw [extra_id gh hp pq R.asks]
  walk_at "w"
  rw [if_neg (fun z=>z trivial)]
  exact h1 _ ⟨.d (.int (3+(j:Int))),.d (.int (g:Int)),.d (.int (h:Int)),.d (.int (p:Int)),.d (.int (q:Int)),.d (frD (extraQ R.asks g h p q)),.d (frD (acrossQ R.asks (g,h)+acrossQ R.asks (p,q)+2*extraQ R.asks g h p q)),⟨rfl,rfl,rfl,rfl,rfl,noL_fr (extraQ R.asks g h p q),noL_fr (acrossQ R.asks (g,h)+acrossQ R.asks (p,q)+2*extraQ R.asks g h p q)⟩,rfl⟩
 rintro ρ ⟨x7,x8,x9,x10,x11,x12,x13,⟨f7,f8,f9,f10,f11,f12,f13⟩,rfl⟩
 unfold c_law_7
 walk_at "w"
 refine ⟨⟨by omega,by omega⟩,?_⟩
 rw [Int.toNat_natCast]
 refine forR0_inv R.n (fun j ρ=>∃ x5,flatL x5=true∧ρ=[.d (.lst (ns.map .int)),.d (ringD R),.d (ringD R),.d (.int (R.n:Int)),.d (.lst ((List.range R.n).map fun g=>D.lst (rowL R g))),x5,.bx (some a6) (boxL R.n ad fun i=>if i < j then rowL R i++[.non] else rowL R i),x7,x8,x9,x10,x11,x12,x13]) _ ⟨x5,f5,?_⟩ ?_ ?_
 ·
  simp only [Nat.not_lt_zero,if_false]
 ·
  rintro j ρ hj ⟨x5,f5,rfl⟩ Q h1 h2 h3 h4
  unfold b_law_0
  walk_at "w"
  have sr:okD 3 (D.lst (rowL R j))=true:=by
   simp only [okD]
   unfold rowL
   exact okDs_map _ fun k _=>okD_fr _ _
  have e1:atI ((List.range R.n).map fun g=>D.lst (if g < j then rowL R g++[.non] else rowL R g)) (j:Int)=some (D.lst (rowL R j)):=by rw [atI_rng hj,if_neg (Nat.lt_irrefl j)]
  have ix:ixN (boxL R.n ad fun i=>if i < j then rowL R i++[.non] else rowL R i).length (j:Int)=some j:=by
   rw [box_len]
   unfold ixN
   rw [if_pos (by omega),if_pos (by omega)]
   simp
  have bx:(boxL R.n ad fun i=>if i < j then rowL R i++[.non] else rowL R i)[j]?=some (.own (ad j) (rowL R j)):=by rw [box_at hj,if_neg (Nat.lt_irrefl j)]
  refine ⟨by rw [f7,f8,f9,f10,f11,f12,f13]; rfl,box_era ad _ _ _ ⟨_,e1,_,atI_rng hj,shape_ok sr (by decide),shape_ok sr (by decide),?_⟩⟩
  rw [if_neg (by rw [eqD_refl sr]; decide)]
  refine ⟨⟨j,ix,_,_,bx,trivial⟩,j,ix,_,_,bx,?_,h1 _ ⟨.d (.int (j:Int)),rfl,?_⟩⟩
  ·
   unfold rowL
   rw [List.length_map,List.length_range]
   exact Nat.lt_of_lt_of_le (by omega:R.n < 99) (size99 (Nat.le_refl _))
  ·
   have:=box_set (n:=R.n) (j:=j) (ad:=ad) (f:=fun i=>if i < j then rowL R i++[.non] else rowL R i) (f':=fun i=>if i < j+1 then rowL R i++[.non] else rowL R i) fun i hi=>by
    by_cases c:i < j
    ·
     rw [if_pos c,if_pos (by omega)]
    ·
     rw [if_neg c,if_neg (by omega)]
   rw [if_pos (Nat.lt_succ_self j)] at this
   rw [this]
 rintro ρ ⟨x5,f5,rfl⟩
 unfold c_law_8
 walk_at "w"
 refine ⟨R,rfl,hR,fun a7 ad7=>box_toD ⟨shape_ok sh (by decide),shape_ok sh (by decide),?_⟩⟩
 rw [if_pos (eqD_refl sh)]
 refine ⟨shape_ring hR,shape_ring hR,_,back_d back0,?_⟩
 rw [eqD_refl (okD_ring hR)]
 exact h
structure Tx (K:PySem.W.Frag) (mg:Str→Option Value) (ad:Nat→Addr) (fd:Nat→FuncData):Prop where
 x_greatest_shared:FX K mg "greatest_shared" s_greatest_shared (ad 0) (fd 0) ["one","other"]
 x_lowest:FX K mg "lowest" s_lowest (ad 1) (fd 1) ["top","bottom"]
 x_plus:FX K mg "plus" s_plus (ad 2) (fd 2) ["one","other"]
 x_sum_of:FX K mg "sum_of" s_sum_of (ad 3) (fd 3) ["some"]
 x_is_within:FX K mg "is_within" s_is_within (ad 4) (fd 4) ["cut","place"]
 x_parts_places:FX K mg "parts_places" s_parts_places (ad 5) (fd 5) ["cut","one","other"]
 x_across:FX K mg "across" s_across (ad 6) (fd 6) ["ring","cut"]
 x_row_of:FX K mg "row_of" s_row_of (ad 7) (fd 7) ["ring","g"]
 x_table_of:FX K mg "table_of" s_table_of (ad 8) (fd 8) ["ring"]
 x_reaches_out:FX K mg "reaches_out" s_reaches_out (ad 9) (fd 9) ["inner","outer","one","other"]
 x_extra_of:FX K mg "extra_of" s_extra_of (ad 10) (fd 10) ["ring","g","h","p","q"]
 x__law_begun:FX K mg "_law_begun" s__law_begun (ad 11) (fd 11) ["_law_script","_law_k"]
 x__law_take:FX K mg "_law_take" s__law_take (ad 12) (fd 12) ["_law_state","_law_many"]
 x__law_names:FX K mg "_law_names" s__law_names (ad 13) (fd 13) ["_law_state","_law_many"]
 x__law_low:FX K mg "_law_low" s__law_low (ad 14) (fd 14) ["_law_top","_law_bottom"]
 x__law_amount:FX K mg "_law_amount" s__law_amount (ad 15) (fd 15) ["_law_state","_law_least","_law_kind"]
 x__law_rooms:FX K mg "_law_rooms" s__law_rooms (ad 16) (fd 16) ["_law_state","_law_ties","_law_kind"]
 x__law_ends:FX K mg "_law_ends" s__law_ends (ad 17) (fd 17) ["_law_state","_law_shape","_law_places","_law_k"]
 x__law_ring:FX K mg "_law_ring" s__law_ring (ad 18) (fd 18) ["_law_script","_law_at","_law_most","_law_count"]
 x__law_copied:FX K mg "_law_copied" s__law_copied (ad 19) (fd 19) ["_law_ring_here"]
 x__law_four:FX K mg "_law_four" s__law_four (ad 20) (fd 20) ["_law_state","_law_places"]
 x__law_plus:FX K mg "_law_plus" s__law_plus (ad 21) (fd 21) ["_law_one","_law_other"]
 x__law_extra:FX K mg "_law_extra" s__law_extra (ad 22) (fd 22) ["_law_ring_here","_law_ties"]
 x__law_times:FX K mg "_law_times" s__law_times (ad 23) (fd 23) ["_law_one","_law_other"]
 x__law_apart:FX K mg "_law_apart" s__law_apart (ad 24) (fd 24) ["_law_cut","_law_one","_law_other"]
 x__law_across:FX K mg "_law_across" s__law_across (ad 25) (fd 25) ["_law_ring_here","_law_cut"]
 x_law:FX K mg "law" s_law (ad 26) (fd 26) ["_law_script"]
 z_abs:mg "abs"=none
 z_int:mg "int"=none
 z_isinstance:mg "isinstance"=none
 z_len:mg "len"=none
 z_list:mg "list"=none
 z_max:mg "max"=none
 z_min:mg "min"=none
 z_range:mg "range"=none
 g_NOUGHT:GlobT K mg "NOUGHT" (.tup [(.int 0),(.int 1)])
section
variable {P:Program} {w:World} {K:PySem.W.Frag} {mg:Str→Option Value} {base:Heap} {ad:Nat→Addr} {fd:Nat→FuncData}
theorem sc_greatest_shared:FnScope N_greatest_shared ["one","other"] (defScope s_greatest_shared):=⟨rfl,rfl,rfl,by decide +kernel,rfl,by decide +kernel,by decide +kernel⟩
set_option maxHeartbeats 0 in
theorem ok_greatest_shared (T:Tx K mg ad fd):FnOk P w K mg base CX0 1 (ad 0) (fd 0) ["one","other"] (spF K 2 fs_greatest_shared) :=
 fn_ok (k:=0) T.x_greatest_shared.f sc_greatest_shared m_greatest_shared (fun cdv A outer s H E hr=>(pms_cons (pm_while PassesOwn.never (pbc (od_ne hr.units) (pl_var 1) pl_int (nomark _)) (pms_cons (pm_set (i:=2) sc_greatest_shared.nd rfl (by walk_at "o") (pl_bin od_mod (pl_var 0) (pl_var 1)))
  (pms_cons (pm_set (i:=0) sc_greatest_shared.nd rfl (by walk_at "o") (pl_var 1))
  (pms_one (pm_set (i:=1) sc_greatest_shared.nd rfl (by walk_at "o") (pl_var 2))))))
  (pms_one (pm_ret (pl_callD cd_abs rfl T.z_abs (by decide +kernel) (pal_val (pl_var 0) pal_nil))))))
  sat_greatest_shared
theorem sc_lowest:FnScope N_lowest ["top","bottom"] (defScope s_lowest):=⟨rfl,rfl,rfl,by decide +kernel,rfl,by decide +kernel,by decide +kernel⟩
set_option maxHeartbeats 0 in
theorem ok_lowest (T:Tx K mg ad fd):FnOk P w K mg base CX0 2 (ad 1) (fd 1) ["top","bottom"] (spF K 2 fs_lowest) :=
 fn_ok (k:=1) T.x_lowest.f sc_lowest m_lowest (fun cdv A outer s H E hr=>(pms_cons (pm_set (i:=2) sc_lowest.nd rfl (by walk_at "o") (pl_frz (pl_cx (ok_greatest_shared T) T.x_greatest_shared hr (pal_val (pl_var 0) (pal_val (pl_var 1) pal_nil)))))
  (pms_cons (pm_if (pbc od_lt (pl_var 1) pl_int (nomark _)) (pms_one (pm_set (i:=2) sc_lowest.nd rfl (by walk_at "o") (pl_neg (pl_var 2)))) pms_nil)
  (pms_one (pm_ret (pl_tup (pal_val (pl_bin od_div (pl_var 0) (pl_var 2)) (pal_val (pl_bin od_div (pl_var 1) (pl_var 2)) pal_nil))))))))
  sat_lowest
theorem sc_plus:FnScope N_plus ["one","other"] (defScope s_plus):=⟨rfl,rfl,rfl,by decide +kernel,rfl,by decide +kernel,by decide +kernel⟩
set_option maxHeartbeats 0 in
theorem ok_plus (T:Tx K mg ad fd):FnOk P w K mg base CX0 3 (ad 2) (fd 2) ["one","other"] (spF K 2 fs_plus) :=
 fn_ok (k:=2) T.x_plus.f sc_plus m_plus (fun cdv A outer s H E hr=>(pms_one (pm_ret (pl_cx (ok_lowest T) T.x_lowest hr (pal_val (pl_frz (pl_bin od_add (pl_bin od_mulI (pl_ix (pl_var 0) pl_int (fun _ _=>rfl)) (pl_ix (pl_var 1) pl_int (fun _ _=>rfl))) (pl_bin od_mulI (pl_ix (pl_var 1) pl_int (fun _ _=>rfl)) (pl_ix (pl_var 0) pl_int (fun _ _=>rfl))))) (pal_val (pl_frz (pl_bin od_mulI (pl_ix (pl_var 0) pl_int (fun _ _=>rfl)) (pl_ix (pl_var 1) pl_int (fun _ _=>rfl)))) pal_nil))))))
  sat_plus
theorem sc_sum_of:FnScope N_sum_of ["some"] (defScope s_sum_of):=⟨rfl,rfl,rfl,by decide +kernel,rfl,by decide +kernel,by decide +kernel⟩
set_option maxHeartbeats 0 in
theorem ok_sum_of (T:Tx K mg ad fd):FnOk P w K mg base CX0 4 (ad 3) (fd 3) ["some"] (spF K 1 fs_sum_of) :=
 fn_ok (k:=3) T.x_sum_of.f sc_sum_of m_sum_of (fun cdv A outer s H E hr=>(pms_cons (pm_set (i:=1) sc_sum_of.nd rfl (by walk_at "o") (pl_G T.g_NOUGHT rfl))
  (pms_cons (pm_for PassesOwn.never rfl (pil_seq (pl_var 0)) (tg_name (i:=2) sc_sum_of.nd rfl (by walk_at "o")) (pms_one (pm_set (i:=1) sc_sum_of.nd rfl (by walk_at "o") (pl_cx (ok_plus T) T.x_plus hr (pal_val (pl_var 1) (pal_val (pl_var 2) pal_nil))))))
  (pms_one (pm_ret (pl_move 1))))))
  sat_sum_of
theorem sc_is_within:FnScope N_is_within ["cut","place"] (defScope s_is_within):=⟨rfl,rfl,rfl,by decide +kernel,rfl,by decide +kernel,by decide +kernel⟩
set_option maxHeartbeats 0 in
theorem ok_is_within (T:Tx K mg ad fd):FnOk P w K mg base CX0 1 (ad 4) (fd 4) ["cut","place"] (spF K 2 fs_is_within) :=
 fn_ok (k:=0) T.x_is_within.f sc_is_within m_is_within (fun cdv A outer s H E hr=>(pms_one (pm_ret (pl_chain ci_lt ci_le (pl_ix (pl_var 0) pl_int (fun _ _=>rfl)) (pl_var 1) (pl_ix (pl_var 0) pl_int (fun _ _=>rfl))))))
  sat_is_within
theorem sc_parts_places:FnScope N_parts_places ["cut","one","other"] (defScope s_parts_places):=⟨rfl,rfl,rfl,by decide +kernel,rfl,by decide +kernel,by decide +kernel⟩
set_option maxHeartbeats 0 in
theorem ok_parts_places (T:Tx K mg ad fd):FnOk P w K mg base CX0 2 (ad 5) (fd 5) ["cut","one","other"] (spF K 3 fs_parts_places) :=
 fn_ok (k:=1) T.x_parts_places.f sc_parts_places m_parts_places (fun cdv A outer s H E hr=>(pms_one (pm_ret (pl_cmp (od_ne hr.units) (pl_cx (ok_is_within T) T.x_is_within hr (pal_val (pl_var 0) (pal_val (pl_var 1) pal_nil))) (pl_cx (ok_is_within T) T.x_is_within hr (pal_val (pl_var 0) (pal_val (pl_var 2) pal_nil))) (nomark _)))))
  sat_parts_places
theorem sc_across:FnScope N_across ["ring","cut"] (defScope s_across):=⟨rfl,rfl,rfl,by decide +kernel,rfl,by decide +kernel,by decide +kernel⟩
set_option maxHeartbeats 0 in
theorem ok_across (T:Tx K mg ad fd):FnOk P w K mg base CX0 5 (ad 6) (fd 6) ["ring","cut"] (spF K 2 fs_across) :=
 fn_ok (k:=4) T.x_across.f sc_across m_across (fun cdv A outer s H E hr=>(pms_one (pm_ret (pl_cx (ok_sum_of T) T.x_sum_of hr (pal_val (pl_frz (pl_comp (sc:=(defScope s_across)) (N:=N_across) (Nt:=["ask"]) (Nf:=["cut"]) (fi:=[1]) rfl rfl rfl (pil_seq (pl_ix (pl_var 0) pl_int (fun _ _=>rfl))) rfl (by decide +kernel) (by decide +kernel) (by decide +kernel) (by decide) rfl (by decide +kernel) (by decide) (fun _ _ _ _=>(tc_name (by decide) (show ((["ask"]:List Str)++(["cut"]:List Str)).Nodup by decide +kernel) rfl (Or.inl rfl))) (fun _ _ _ _=>(pif_one (pb_val (pl_cx (ok_parts_places T) T.x_parts_places hr (pal_val (pl_var 1) (pal_val (pl_ix (pl_var 0) pl_int (fun _ _=>rfl)) (pal_val (pl_ix (pl_var 0) pl_int (fun _ _=>rfl)) pal_nil))))))) (fun _ _ _ _=>(pl_ix (pl_var 0) pl_int (fun _ _=>rfl))))) pal_nil)))))
  sat_across
theorem sc_row_of:FnScope N_row_of ["ring","g"] (defScope s_row_of):=⟨rfl,rfl,rfl,by decide +kernel,rfl,by decide +kernel,by decide +kernel⟩
set_option maxHeartbeats 0 in
theorem ok_row_of (T:Tx K mg ad fd):FnOk P w K mg base CX0 6 (ad 7) (fd 7) ["ring","g"] (spF K 2 fs_row_of) :=
 fn_ok (k:=5) T.x_row_of.f sc_row_of m_row_of (fun cdv A outer s H E hr=>(pms_one (pm_ret (pl_comp (sc:=(defScope s_row_of)) (N:=N_row_of) (Nt:=["h"]) (Nf:=["ring","g"]) (fi:=[0,1]) rfl rfl rfl (pil_rng1 rfl T.z_range (pl_callD cd_len rfl T.z_len (by decide +kernel) (pal_val (pl_ix (pl_var 0) pl_int (fun _ _=>rfl)) pal_nil))) rfl (by decide +kernel) (by decide +kernel) (by decide +kernel) (by decide) rfl (by decide +kernel) (by decide) (fun _ _ _ _=>(tc_name (by decide) (show ((["h"]:List Str)++(["ring","g"]:List Str)).Nodup by decide +kernel) rfl (Or.inl rfl))) (fun _ _ _ _=>pif_nil) (fun _ _ _ _=>(pl_cx (ok_across T) T.x_across hr (pal_val (pl_var 1) (pal_val (pl_tup (pal_val (pl_frz (pl_callD (cd_min rfl) rfl T.z_min (by decide +kernel) (pal_val (pl_var 2) (pal_val (pl_var 0) pal_nil)))) (pal_val (pl_frz (pl_callD (cd_max rfl) rfl T.z_max (by decide +kernel) (pal_val (pl_var 2) (pal_val (pl_var 0) pal_nil)))) pal_nil))) pal_nil))))))))
  sat_row_of
theorem sc_table_of:FnScope N_table_of ["ring"] (defScope s_table_of):=⟨rfl,rfl,rfl,by decide +kernel,rfl,by decide +kernel,by decide +kernel⟩
set_option maxHeartbeats 0 in
theorem ok_table_of (T:Tx K mg ad fd):FnOk P w K mg base CX0 7 (ad 8) (fd 8) ["ring"] (spF K 1 fs_table_of) :=
 fn_ok (k:=6) T.x_table_of.f sc_table_of m_table_of (fun cdv A outer s H E hr=>(pms_one (pm_ret (pl_compB (sc:=(defScope s_table_of)) (N:=N_table_of) (Nt:=["g"]) (Nf:=["ring"]) (fi:=[0]) rfl rfl rfl (pil_rng1 rfl T.z_range (pl_callD cd_len rfl T.z_len (by decide +kernel) (pal_val (pl_ix (pl_var 0) pl_int (fun _ _=>rfl)) pal_nil))) rfl (by decide +kernel) (by decide +kernel) (by decide +kernel) (by decide) rfl (by decide +kernel) (by decide) (fun _ _ _ _=>(tc_name (by decide) (show ((["g"]:List Str)++(["ring"]:List Str)).Nodup by decide +kernel) rfl (Or.inl rfl))) (fun _ _ _ _=>pif_nil) (fun _ _ _ _=>(pl_cx (ok_row_of T) T.x_row_of hr (pal_val (pl_var 1) (pal_val (pl_var 0) pal_nil))))))))
  sat_table_of
theorem sc_reaches_out:FnScope N_reaches_out ["inner","outer","one","other"] (defScope s_reaches_out):=⟨rfl,rfl,rfl,by decide +kernel,rfl,by decide +kernel,by decide +kernel⟩
set_option maxHeartbeats 0 in
theorem ok_reaches_out (T:Tx K mg ad fd):FnOk P w K mg base CX0 2 (ad 9) (fd 9) ["inner","outer","one","other"] (spF K 4 fs_reaches_out) :=
 fn_ok (k:=1) T.x_reaches_out.f sc_reaches_out m_reaches_out (fun cdv A outer s H E hr=>(pms_cons (pm_if (pb_val (pl_cx (ok_is_within T) T.x_is_within hr (pal_val (pl_var 0) (pal_val (pl_var 2) pal_nil)))) (pms_one (pm_ret (pl_not (pl_cx (ok_is_within T) T.x_is_within hr (pal_val (pl_var 1) (pal_val (pl_var 3) pal_nil)))))) pms_nil)
  (pms_one (pm_ret (pl_and (pl_cx (ok_is_within T) T.x_is_within hr (pal_val (pl_var 0) (pal_val (pl_var 3) pal_nil))) (pl_one (pl_not (pl_cx (ok_is_within T) T.x_is_within hr (pal_val (pl_var 1) (pal_val (pl_var 2) pal_nil))))))))))
  sat_reaches_out
theorem sc_extra_of:FnScope N_extra_of ["ring","g","h","p","q"] (defScope s_extra_of):=⟨rfl,rfl,rfl,by decide +kernel,rfl,by decide +kernel,by decide +kernel⟩
set_option maxHeartbeats 0 in
theorem ok_extra_of (T:Tx K mg ad fd):FnOk P w K mg base CX0 5 (ad 10) (fd 10) ["ring","g","h","p","q"] (spF K 5 fs_extra_of) :=
 fn_ok (k:=4) T.x_extra_of.f sc_extra_of m_extra_of (fun cdv A outer s H E hr=>(pms_cons (pm_set (i:=5) sc_extra_of.nd rfl (by walk_at "o") (pl_tup (pal_val (pl_var 2) (pal_val (pl_var 3) pal_nil))))
  (pms_cons (pm_set (i:=6) sc_extra_of.nd rfl (by walk_at "o") (pl_tup (pal_val (pl_var 1) (pal_val (pl_var 4) pal_nil))))
  (pms_one (pm_ret (pl_cx (ok_sum_of T) T.x_sum_of hr (pal_val (pl_frz (pl_comp (sc:=(defScope s_extra_of)) (N:=N_extra_of) (Nt:=["ask"]) (Nf:=["inner","outer"]) (fi:=[5,6]) rfl rfl rfl (pil_seq (pl_ix (pl_var 0) pl_int (fun _ _=>rfl))) rfl (by decide +kernel) (by decide +kernel) (by decide +kernel) (by decide) rfl (by decide +kernel) (by decide) (fun _ _ _ _=>(tc_name (by decide) (show ((["ask"]:List Str)++(["inner","outer"]:List Str)).Nodup by decide +kernel) rfl (Or.inl rfl))) (fun _ _ _ _=>(pif_one (pb_val (pl_cx (ok_reaches_out T) T.x_reaches_out hr (pal_val (pl_var 1) (pal_val (pl_var 2) (pal_val (pl_ix (pl_var 0) pl_int (fun _ _=>rfl)) (pal_val (pl_ix (pl_var 0) pl_int (fun _ _=>rfl)) pal_nil)))))))) (fun _ _ _ _=>(pl_ix (pl_var 0) pl_int (fun _ _=>rfl))))) pal_nil)))))))
  sat_extra_of
theorem sc__law_begun:FnScope N__law_begun ["_law_script","_law_k"] (defScope s__law_begun):=⟨rfl,rfl,rfl,by decide +kernel,rfl,by decide +kernel,by decide +kernel⟩
set_option maxHeartbeats 0 in
theorem ok__law_begun (T:Tx K mg ad fd):FnOk P w K mg base CX0 1 (ad 11) (fd 11) ["_law_script","_law_k"] (spF K 2 fs__law_begun) :=
 fn_ok (k:=0) T.x__law_begun.f sc__law_begun m__law_begun (fun cdv A outer s H E hr=>(pms_cons (pm_set (i:=2) sc__law_begun.nd rfl (by walk_at "o") pl_int)
  (pms_cons (pm_if (pbc od_lt (pl_var 1) (pl_callD cd_len rfl T.z_len (by decide +kernel) (pal_val (pl_var 0) pal_nil)) (nomark _)) (pms_one (pm_set (i:=2) sc__law_begun.nd rfl (by walk_at "o") (pl_ix (pl_var 0) (pl_var 1) (fun _ _=>rfl)))) pms_nil)
  (pms_one (pm_ret (pl_lst (pal_val (pl_var 2) (pal_val (pl_bin od_mod (pl_bin od_add (pl_bin od_add (pl_bin od_mod (pl_var 2) pl_int) (pl_bin od_mulI (pl_bin od_mulI pl_int (pl_var 1)) (pl_var 1))) pl_int) pl_int) (pal_val (pl_cmp od_ge (pl_var 2) (pl_bin od_pow pl_int pl_int) (nomark _)) pal_nil)))))))))
  sat__law_begun
theorem sc__law_take:FnScope N__law_take ["_law_state","_law_many"] (defScope s__law_take):=⟨rfl,rfl,rfl,by decide +kernel,rfl,by decide +kernel,by decide +kernel⟩
set_option maxHeartbeats 0 in
theorem ok__law_take (T:Tx K mg ad fd):FnOk P w K mg base CX0 1 (ad 12) (fd 12) ["_law_state","_law_many"] (spF K 2 fs__law_take) :=
 fn_ok (k:=0) T.x__law_take.f sc__law_take m__law_take (fun cdv A outer s H E hr=>(pms_cons (pm_if (pb_val (pl_own (pl_ixV 0 pl_int (fun _ _=>rfl)) (pl_ix (pl_var 0) pl_int (fun _ _=>rfl)))) (pms_cons (pm_set (i:=2) sc__law_take.nd rfl (by walk_at "o") (pl_bin od_mod (pl_own (pl_ixV 0 pl_int (fun _ _=>rfl)) (pl_ix (pl_var 0) pl_int (fun _ _=>rfl))) (pl_var 1)))
  (pms_cons (pm_setV 0 pl_int (pl_bin od_div (pl_own (pl_ixV 0 pl_int (fun _ _=>rfl)) (pl_ix (pl_var 0) pl_int (fun _ _=>rfl))) (pl_var 1)))
  (pms_cons (pm_setV 0 pl_int (pl_cmp od_gt (pl_own (pl_ixV 0 pl_int (fun _ _=>rfl)) (pl_ix (pl_var 0) pl_int (fun _ _=>rfl))) pl_int (nomark _)))
  (pms_one (pm_ret (pl_move 2)))))) pms_nil)
  (pms_cons (pm_set (i:=3) sc__law_take.nd rfl (by walk_at "o") pl_int)
  (pms_cons (pm_for PassesOwn.never rfl (pil_rng1 rfl T.z_range (pl_bin od_add pl_int (pl_bin od_mulI pl_int (pl_callTD cd_int rfl T.z_int (by decide +kernel) (pal_val (pl_cmp od_gt (pl_var 1) (pl_bin od_pow pl_int pl_int) (nomark _)) pal_nil))))) (tg_name (i:=4) sc__law_take.nd rfl (by walk_at "o")) (pms_cons (pm_setV 0 pl_int (pl_bin od_mod (pl_bin od_add (pl_bin od_mulI (pl_own (pl_ixV 0 pl_int (fun _ _=>rfl)) (pl_ix (pl_var 0) pl_int (fun _ _=>rfl))) pl_int) pl_int) pl_int))
  (pms_one (pm_set (i:=3) sc__law_take.nd rfl (by walk_at "o") (pl_frz (pl_bin od_add (pl_bin od_mulI (pl_var 3) pl_int) (pl_bin od_mod (pl_bin od_mulI (pl_own (pl_ixV 0 pl_int (fun _ _=>rfl)) (pl_ix (pl_var 0) pl_int (fun _ _=>rfl))) (pl_own (pl_ixV 0 pl_int (fun _ _=>rfl)) (pl_ix (pl_var 0) pl_int (fun _ _=>rfl)))) pl_int)))))))
  (pms_one (pm_ret (pl_bin od_mod (pl_bin od_div (pl_var 3) pl_int) (pl_var 1))))))))
  sat__law_take
theorem sc__law_names:FnScope N__law_names ["_law_state","_law_many"] (defScope s__law_names):=⟨rfl,rfl,rfl,by decide +kernel,rfl,by decide +kernel,by decide +kernel⟩
set_option maxHeartbeats 0 in
theorem ok__law_names (T:Tx K mg ad fd):FnOk P w K mg base CX0 2 (ad 13) (fd 13) ["_law_state","_law_many"] (spF K 2 fs__law_names) :=
 fn_ok (k:=1) T.x__law_names.f sc__law_names m__law_names (fun cdv A outer s H E hr=>(pms_cons (pm_set (i:=2) sc__law_names.nd rfl (by walk_at "o") pl_str)
  (pms_cons (pm_set (i:=3) sc__law_names.nd rfl (by walk_at "o") (pl_frz (pl_join (pl_comp (sc:=(defScope s__law_names)) (N:=N__law_names) (Nt:=["_law_k"]) (Nf:=["_law_letters","_law_state"]) (fi:=[2,0]) rfl rfl rfl (pil_rng1 rfl T.z_range (pl_bin od_add pl_int (pl_cxB (ok__law_take T) T.x__law_take hr 0 0 (pal_var 0 (pal_val pl_int pal_nil))))) rfl (by decide +kernel) (by decide +kernel) (by decide +kernel) (by decide) rfl (by decide +kernel) (by decide) (fun _ _ _ _=>(tc_name (by decide) (show ((["_law_k"]:List Str)++(["_law_letters","_law_state"]:List Str)).Nodup by decide +kernel) rfl (Or.inl rfl))) (fun _ _ _ _=>pif_nil) (fun _ _ _ _=>(pl_ix (pl_var 1) (pl_cxB (ok__law_take T) T.x__law_take hr 0 2 (pal_var 2 (pal_val pl_int pal_nil))) (fun _ _=>rfl)))))))
  (pms_cons (pm_set (i:=4) sc__law_names.nd rfl (by walk_at "o") (pl_frz (pl_cxB (ok__law_take T) T.x__law_take hr 0 0 (pal_var 0 (pal_val (pl_frz (pl_callD cd_len rfl T.z_len (by decide +kernel) (pal_val (pl_var 3) pal_nil))) pal_nil)))))
  (pms_cons (pm_set (i:=5) sc__law_names.nd rfl (by walk_at "o") (pl_frz (pl_cxB (ok__law_take T) T.x__law_take hr 0 0 (pal_var 0 (pal_val pl_int pal_nil)))))
  (pms_one (pm_ret (pl_comp (sc:=(defScope s__law_names)) (N:=N__law_names) (Nt:=["_law_k"]) (Nf:=["_law_base","_law_at","_law_letters","_law_turn"]) (fi:=[3,4,2,5]) rfl rfl rfl (pil_rng1 rfl T.z_range (pl_var 1)) rfl (by decide +kernel) (by decide +kernel) (by decide +kernel) (by decide) rfl (by decide +kernel) (by decide) (fun _ _ _ _=>(tc_name (by decide) (show ((["_law_k"]:List Str)++(["_law_base","_law_at","_law_letters","_law_turn"]:List Str)).Nodup by decide +kernel) rfl (Or.inl rfl))) (fun _ _ _ _=>pif_nil) (fun _ _ _ _=>(pl_bin od_add (pl_bin od_add (pl_slice2 (pl_var 1) trivial (pl_var 2)) (pl_ix (pl_var 3) (pl_bin od_mod (pl_bin od_add (pl_var 4) (pl_var 0)) pl_int) (fun _ _=>rfl))) (pl_slice2 (pl_var 1) (pl_bin od_add (pl_var 2) pl_int) trivial)))))))))))
  sat__law_names
theorem sc__law_low:FnScope N__law_low ["_law_top","_law_bottom"] (defScope s__law_low):=⟨rfl,rfl,rfl,by decide +kernel,rfl,by decide +kernel,by decide +kernel⟩
set_option maxHeartbeats 0 in
theorem ok__law_low (T:Tx K mg ad fd):FnOk P w K mg base CX0 1 (ad 14) (fd 14) ["_law_top","_law_bottom"] (spF K 2 fs__law_low) :=
 fn_ok (k:=0) T.x__law_low.f sc__law_low m__law_low (fun cdv A outer s H E hr=>(pms_cons (pm_set (i:=2) sc__law_low.nd rfl (by walk_at "o") (pl_frz (pl_callD cd_abs rfl T.z_abs (by decide +kernel) (pal_val (pl_var 0) pal_nil))))
  (pms_cons (pm_set (i:=3) sc__law_low.nd rfl (by walk_at "o") (pl_frz (pl_callD cd_abs rfl T.z_abs (by decide +kernel) (pal_val (pl_var 1) pal_nil))))
  (pms_cons (pm_while PassesOwn.never (pbc (od_ne hr.units) (pl_var 2) pl_int (nomark _)) (pms_one (pm_par (i:=2) (j:=3) rfl sc__law_low.nd rfl rfl (by decide) rfl rfl (pl_bin od_mod (pl_var 3) (pl_var 2)) (pl_var 2) rfl)))
  (pms_cons (pm_if (pbc od_lt (pl_var 1) pl_int (nomark _)) (pms_one (pm_set (i:=3) sc__law_low.nd rfl (by walk_at "o") (pl_bin od_sub pl_int (pl_var 3)))) pms_nil)
  (pms_one (pm_ret (pl_tup (pal_val (pl_bin od_div (pl_var 0) (pl_var 3)) (pal_val (pl_bin od_div (pl_var 1) (pl_var 3)) pal_nil))))))))))
  sat__law_low
theorem sc__law_amount:FnScope N__law_amount ["_law_state","_law_least","_law_kind"] (defScope s__law_amount):=⟨rfl,rfl,rfl,by decide +kernel,rfl,by decide +kernel,by decide +kernel⟩
set_option maxHeartbeats 0 in
theorem ok__law_amount (T:Tx K mg ad fd):FnOk P w K mg base CX0 2 (ad 15) (fd 15) ["_law_state","_law_least","_law_kind"] (spF K 3 fs__law_amount) :=
 fn_ok (k:=1) T.x__law_amount.f sc__law_amount m__law_amount (fun cdv A outer s H E hr=>by exact (@pms_cons _ _ _ _ _ (@pm_set _ _ _ 3 _ _ _ sc__law_amount.nd rfl (by walk_at "o") (@pl_frz _ _ _ (@pl_bin _ _ _ _ _ _ _ _ od_add pl_int (pl_cxB (ok__law_take T) T.x__law_take hr 0 0 (pal_var 0 (@pal_val _ _ _ _ _ _ (@pl_ix _ _ _ _ _ _ (@pl_lst _ _ _ _ _ (@pal_val _ _ _ _ _ _ pl_int (@pal_val _ _ _ _ _ _ pl_int (@pal_val _ _ _ _ _ _ pl_int (@pal_val _ _ _ _ _ _ pl_int (@pal_val _ _ _ _ _ _ pl_int pal_nil (by kernel_rfl)) (by kernel_rfl)) (by kernel_rfl)) (by kernel_rfl)) (by kernel_rfl))) (pl_var 2) (fun _ _=>rfl)) pal_nil (by kernel_rfl)))))) (by kernel_rfl) (by first | exact .inl rfl | exact .inr rfl)) (@pms_cons _ _ _ _ _ (@pm_set _ _ _ 4 _ _ _ sc__law_amount.nd rfl (by walk_at "o") (@pl_frz _ _ _ (@pl_bin _ _ _ _ _ _ _ _ od_add (pl_var 1) (pl_cxB (ok__law_take T) T.x__law_take hr 0 0 (pal_var 0 (@pal_val _ _ _ _ _ _ (@pl_ix _ _ _ _ _ _ (@pl_lst _ _ _ _ _ (@pal_val _ _ _ _ _ _ pl_int (@pal_val _ _ _ _ _ _ pl_int (@pal_val _ _ _ _ _ _ pl_int (@pal_val _ _ _ _ _ _ pl_int (@pal_val _ _ _ _ _ _ (@pl_bin _ _ _ _ _ _ _ _ od_pow pl_int pl_int) pal_nil (by kernel_rfl)) (by kernel_rfl)) (by kernel_rfl)) (by kernel_rfl)) (by kernel_rfl))) (pl_var 2) (fun _ _=>rfl)) pal_nil (by kernel_rfl)))))) (by kernel_rfl) (by first | exact .inl rfl | exact .inr rfl)) (@pms_one _ _ _ (@pm_ret _ _ _ _ (pl_cx (ok__law_low T) T.x__law_low hr (@pal_val _ _ _ _ _ _ (pl_var 4) (@pal_val _ _ _ _ _ _ (pl_var 3) pal_nil (by kernel_rfl)) (by kernel_rfl))))))))
  sat__law_amount
theorem sc__law_rooms:FnScope N__law_rooms ["_law_state","_law_ties","_law_kind"] (defScope s__law_rooms):=⟨rfl,rfl,rfl,by decide +kernel,rfl,by decide +kernel,by decide +kernel⟩
set_option maxHeartbeats 0 in
theorem ok__law_rooms (T:Tx K mg ad fd):FnOk P w K mg base CX0 3 (ad 16) (fd 16) ["_law_state","_law_ties","_law_kind"] (spF K 3 fs__law_rooms) :=
 fn_ok (k:=2) T.x__law_rooms.f sc__law_rooms m__law_rooms (fun cdv A outer s H E hr=>(pms_cons (pm_set (i:=3) sc__law_rooms.nd rfl (by walk_at "o") (pl_frz (pl_cxB (ok__law_take T) T.x__law_take hr 0 0 (pal_var 0 (pal_val pl_int pal_nil)))))
  (pms_cons (pm_set (i:=4) sc__law_rooms.nd rfl (by walk_at "o") (pl_frz (pl_cxB (ok__law_amount T) T.x__law_amount hr 0 0 (pal_var 0 (pal_val pl_int (pal_val (pl_var 2) pal_nil))))))
  (pms_cons (pm_if (pbc (od_eq hr.units) (pl_var 3) pl_int (nomark _)) (pms_one (pm_set (i:=4) sc__law_rooms.nd rfl (by walk_at "o") (pl_tup (pal_val pl_int (pal_val pl_int pal_nil))))) pms_nil)
  (pms_cons (pm_set (i:=5) sc__law_rooms.nd rfl (by walk_at "o") (pl_lst (pal_val (pl_var 4) pal_nil)))
  (pms_cons (pm_while PassesOwn.never (pbc od_lt (pl_own (pl_lenV 5 rfl T.z_len) (pl_callD cd_len rfl T.z_len PySem.boot_len (pal_val (pl_var 5) pal_nil))) (pl_var 1) (nomark _)) (pms_cons (pm_set (i:=6) sc__law_rooms.nd rfl (by walk_at "o") (pl_frz (pl_cxB (ok__law_amount T) T.x__law_amount hr 0 0 (pal_var 0 (pal_val pl_int (pal_val (pl_var 2) pal_nil))))))
  (pms_one (pm_expr (pl_append 5 (pl_ix (pl_lst (pal_val (pl_var 4) (pal_val (pl_var 6) pal_nil))) (pl_callTD cd_int rfl T.z_int (by decide +kernel) (pal_val (pl_cmp (od_eq hr.units) (pl_var 3) pl_int (nomark _)) pal_nil)) (fun _ _=>rfl)))))))
  (pms_one (pm_ret (pl_move 5)))))))))
  sat__law_rooms
theorem sc__law_ends:FnScope N__law_ends ["_law_state","_law_shape","_law_places","_law_k"] (defScope s__law_ends):=⟨rfl,rfl,rfl,by decide +kernel,rfl,by decide +kernel,by decide +kernel⟩
set_option maxHeartbeats 0 in
theorem ok__law_ends (T:Tx K mg ad fd):FnOk P w K mg base CX0 2 (ad 17) (fd 17) ["_law_state","_law_shape","_law_places","_law_k"] (spF K 4 fs__law_ends) :=
 fn_ok (k:=1) T.x__law_ends.f sc__law_ends m__law_ends (fun cdv A outer s H E hr=>(pms_cons (pm_set (i:=4) sc__law_ends.nd rfl (by walk_at "o") (pl_frz (pl_cxB (ok__law_take T) T.x__law_take hr 0 0 (pal_var 0 (pal_val (pl_var 2) pal_nil)))))
  (pms_cons (pm_set (i:=5) sc__law_ends.nd rfl (by walk_at "o") (pl_bin od_mod (pl_bin od_add (pl_bin od_add (pl_var 4) pl_int) (pl_cxB (ok__law_take T) T.x__law_take hr 0 0 (pal_var 0 (pal_val (pl_bin od_sub (pl_var 2) pl_int) pal_nil)))) (pl_var 2)))
  (pms_cons (pm_if (pbc (od_eq hr.units) (pl_var 1) pl_int (nomark _)) (pms_one (pm_ret (pl_tup (pal_val (pl_bin od_mod (pl_var 3) (pl_var 2)) (pal_val (pl_bin od_mod (pl_bin od_add (pl_var 3) (pl_bin od_div (pl_var 2) pl_int)) (pl_var 2)) pal_nil))))) pms_nil)
  (pms_cons (pm_if (pbc (od_eq hr.units) (pl_var 1) pl_int (nomark _)) (pms_one (pm_ret (pl_tup (pal_val (pl_frz (pl_bin od_mulI (pl_bin od_mod (pl_var 3) pl_int) (pl_bin od_sub (pl_var 2) pl_int))) (pal_val (pl_frz (pl_bin od_mulI (pl_bin od_sub pl_int (pl_bin od_mod (pl_var 3) pl_int)) (pl_bin od_sub (pl_var 2) pl_int))) pal_nil))))) pms_nil)
  (pms_cons (pm_if (pbc (od_eq hr.units) (pl_var 1) pl_int (nomark _)) (pms_one (pm_ret (pl_tup (pal_val pl_int (pal_val (pl_frz (pl_bin od_add pl_int (pl_bin od_mod (pl_var 5) (pl_bin od_sub (pl_var 2) pl_int)))) pal_nil))))) pms_nil)
  (pms_one (pm_ret (pl_tup (pal_val (pl_var 4) (pal_val (pl_var 5) pal_nil)))))))))))
  sat__law_ends
theorem sc__law_ring:FnScope N__law_ring ["_law_script","_law_at","_law_most","_law_count"] (defScope s__law_ring):=⟨rfl,rfl,rfl,by decide +kernel,rfl,by decide +kernel,by decide +kernel⟩
set_option maxHeartbeats 0 in
theorem ok__law_ring (T:Tx K mg ad fd):FnOk P w K mg base CX0 4 (ad 18) (fd 18) ["_law_script","_law_at","_law_most","_law_count"] (spF K 4 fs__law_ring) :=
 fn_ok (k:=3) T.x__law_ring.f sc__law_ring m__law_ring (fun cdv A outer s H E hr=>by exact (@pms_cons _ _ _ _ _ (@pm_set _ _ _ 4 _ _ _ sc__law_ring.nd rfl (by walk_at "o") (pl_cx (ok__law_begun T) T.x__law_begun hr (@pal_val _ _ _ _ _ _ (pl_var 0) (@pal_val _ _ _ _ _ _ (pl_var 1) pal_nil (by kernel_rfl)) (by kernel_rfl))) (by kernel_rfl) (by first | exact .inl rfl | exact .inr rfl)) (@pms_cons _ _ _ _ _ (@pm_set _ _ _ 5 _ _ _ sc__law_ring.nd rfl (by walk_at "o") (@pl_frz _ _ _ (@pl_bin _ _ _ _ _ _ _ _ od_add pl_int (pl_cxB (ok__law_take T) T.x__law_take hr 0 4 (pal_var 4 (@pal_val _ _ _ _ _ _ (@pl_bin _ _ _ _ _ _ _ _ od_sub (pl_var 2) pl_int) pal_nil (by kernel_rfl)))))) (by kernel_rfl) (by first | exact .inl rfl | exact .inr rfl)) (@pms_cons _ _ _ _ _ (@pm_set _ _ _ 6 _ _ _ sc__law_ring.nd rfl (by walk_at "o") (@pl_frz _ _ _ (pl_cxB (ok__law_take T) T.x__law_take hr 0 4 (pal_var 4 (@pal_val _ _ _ _ _ _ (@pl_frz _ _ _ (@pl_bin _ _ _ _ _ _ _ _ od_add (pl_var 3) pl_int)) pal_nil (by kernel_rfl))))) (by kernel_rfl) (by first | exact .inl rfl | exact .inr rfl)) (@pms_cons _ _ _ _ _ (@pm_set _ _ _ 7 _ _ _ sc__law_ring.nd rfl (by walk_at "o") (@pl_frz _ _ _ (@pl_lst _ _ _ _ _ (@pal_val _ _ _ _ _ _ (@pl_frz _ _ _ (pl_cxB (ok__law_take T) T.x__law_take hr 0 4 (pal_var 4 (@pal_val _ _ _ _ _ _ pl_int pal_nil (by kernel_rfl))))) (@pal_val _ _ _ _ _ _ (@pl_frz _ _ _ (pl_cxB (ok__law_take T) T.x__law_take hr 0 4 (pal_var 4 (@pal_val _ _ _ _ _ _ pl_int pal_nil (by kernel_rfl))))) pal_nil (by kernel_rfl)) (by kernel_rfl)))) (by kernel_rfl) (by first | exact .inl rfl | exact .inr rfl)) (@pms_cons _ _ _ _ _ (@pm_set _ _ _ 8 _ _ _ sc__law_ring.nd rfl (by walk_at "o") (@pl_frz _ _ _ (pl_cxB (ok__law_take T) T.x__law_take hr 0 4 (pal_var 4 (@pal_val _ _ _ _ _ _ pl_int pal_nil (by kernel_rfl))))) (by kernel_rfl) (by first | exact .inl rfl | exact .inr rfl)) (@pms_cons _ _ _ _ _ (@pm_set _ _ _ 9 _ _ _ sc__law_ring.nd rfl (by walk_at "o") (@pl_frz _ _ _ (pl_cxB (ok__law_names T) T.x__law_names hr 0 4 (pal_var 4 (@pal_val _ _ _ _ _ _ (pl_var 6) pal_nil (by kernel_rfl))))) (by kernel_rfl) (by first | exact .inl rfl | exact .inr rfl)) (@pms_cons _ _ _ _ _ (@pm_set _ _ _ 10 _ _ _ sc__law_ring.nd rfl (by walk_at "o") (@pl_frz _ _ _ (pl_cx (ok__law_rooms T) T.x__law_rooms hr (@pal_val _ _ _ _ _ _ (pl_cx (ok__law_begun T) T.x__law_begun hr (@pal_val _ _ _ _ _ _ (pl_var 0) (@pal_val _ _ _ _ _ _ (@pl_frz _ _ _ (@pl_bin _ _ _ _ _ _ _ _ od_add (pl_var 1) pl_int)) pal_nil (by kernel_rfl)) (by kernel_rfl))) (@pal_val _ _ _ _ _ _ (pl_var 5) (@pal_val _ _ _ _ _ _ (@pl_ix _ _ _ _ _ _ (pl_var 7) pl_int (fun _ _=>rfl)) pal_nil (by kernel_rfl)) (by kernel_rfl)) (by kernel_rfl)))) (by kernel_rfl) (by first | exact .inl rfl | exact .inr rfl)) (@pms_cons _ _ _ _ _ (@pm_set _ _ _ 4 _ _ _ sc__law_ring.nd rfl (by walk_at "o") (pl_cx (ok__law_begun T) T.x__law_begun hr (@pal_val _ _ _ _ _ _ (pl_var 0) (@pal_val _ _ _ _ _ _ (@pl_frz _ _ _ (@pl_bin _ _ _ _ _ _ _ _ od_add (pl_var 1) pl_int)) pal_nil (by kernel_rfl)) (by kernel_rfl))) (by kernel_rfl) (by first | exact .inl rfl | exact .inr rfl)) (@pms_cons _ _ _ _ _ (@pm_set _ _ _ 11 _ _ _ sc__law_ring.nd rfl (by walk_at "o") (@pl_lst _ _ _ _ _ pal_nil) (by kernel_rfl) (by first | exact .inl rfl | exact .inr rfl)) (@pms_cons _ _ _ _ _ (pm_for PassesOwn.never rfl (pil_rng1 rfl T.z_range (pl_var 6)) (tg_name (i:=12) sc__law_ring.nd rfl (by walk_at "o")) (@pms_cons _ _ _ _ _ (pm_asgT (tg_tup rfl (tgs_cons (i:=13) sc__law_ring.nd rfl (by walk_at "o") (tgs_cons (i:=14) sc__law_ring.nd rfl (by walk_at "o") tgs_nil))) (pl_cxB (ok__law_ends T) T.x__law_ends hr 0 4 (pal_var 4 (@pal_val _ _ _ _ _ _ (pl_var 8) (@pal_val _ _ _ _ _ _ (pl_var 5) (@pal_val _ _ _ _ _ _ (pl_var 12) pal_nil (by kernel_rfl)) (by kernel_rfl)) (by kernel_rfl))))) (@pms_one _ _ _ (pm_expr (pl_append 11 (@pl_tup _ _ _ _ _ _ (@pal_val _ _ _ _ _ _ (@pl_ix _ _ _ _ _ _ (pl_var 9) (pl_var 12) (fun _ _=>rfl)) (@pal_val _ _ _ _ _ _ (pl_var 13) (@pal_val _ _ _ _ _ _ (pl_var 14) (@pal_val _ _ _ _ _ _ (@pl_frz _ _ _ (pl_cxB (ok__law_amount T) T.x__law_amount hr 0 4 (pal_var 4 (@pal_val _ _ _ _ _ _ pl_int (@pal_val _ _ _ _ _ _ (@pl_ix _ _ _ _ _ _ (pl_var 7) pl_int (fun _ _=>rfl)) pal_nil (by kernel_rfl)) (by kernel_rfl))))) pal_nil (by kernel_rfl)) (by kernel_rfl)) (by kernel_rfl)) (by kernel_rfl)))))))) (@pms_one _ _ _ (@pm_ret _ _ _ _ (@pl_tup _ _ _ _ _ _ (@pal_val _ _ _ _ _ _ (pl_var 10) (@pal_val _ _ _ _ _ _ (pl_var 11) pal_nil (by kernel_rfl)) (by kernel_rfl))))))))))))))))
  sat__law_ring
theorem sc__law_copied:FnScope N__law_copied ["_law_ring_here"] (defScope s__law_copied):=⟨rfl,rfl,rfl,by decide +kernel,rfl,by decide +kernel,by decide +kernel⟩
set_option maxHeartbeats 0 in
theorem ok__law_copied (T:Tx K mg ad fd):FnOk P w K mg base CX0 1 (ad 19) (fd 19) ["_law_ring_here"] (spF K 1 fs__law_copied) :=
 fn_ok (k:=0) T.x__law_copied.f sc__law_copied m__law_copied (fun cdv A outer s H E hr=>(pms_one (pm_ret (pl_tup (pal_val (pl_frz (pl_callTD cd_list rfl T.z_list (by decide +kernel) (pal_val (pl_ix (pl_var 0) pl_int (fun _ _=>rfl)) pal_nil))) (pal_val (pl_frz (pl_callTD cd_list rfl T.z_list (by decide +kernel) (pal_val (pl_ix (pl_var 0) pl_int (fun _ _=>rfl)) pal_nil))) pal_nil))))))
  sat__law_copied
theorem sc__law_four:FnScope N__law_four ["_law_state","_law_places"] (defScope s__law_four):=⟨rfl,rfl,rfl,by decide +kernel,rfl,by decide +kernel,by decide +kernel⟩
set_option maxHeartbeats 0 in
theorem ok__law_four (T:Tx K mg ad fd):FnOk P w K mg base CX0 2 (ad 20) (fd 20) ["_law_state","_law_places"] (spF K 2 fs__law_four) :=
 fn_ok (k:=1) T.x__law_four.f sc__law_four m__law_four (fun cdv A outer s H E hr=>(pms_cons (pm_set (i:=2) sc__law_four.nd rfl (by walk_at "o") (pl_lst (pal_val (pl_frz (pl_cxB (ok__law_take T) T.x__law_take hr 0 0 (pal_var 0 (pal_val (pl_var 1) pal_nil)))) pal_nil)))
  (pms_cons (pm_while PassesOwn.never (pbc od_lt (pl_own (pl_lenV 2 rfl T.z_len) (pl_callD cd_len rfl T.z_len PySem.boot_len (pal_val (pl_var 2) pal_nil))) pl_int (nomark _)) (pms_one (pm_expr (pl_append 2 (pl_bin od_add (pl_own (pl_ixV 2 (pl_neg pl_int) (fun _ _=>rfl)) (pl_ix (pl_var 2) (pl_neg pl_int) (fun _ _=>rfl))) (pl_cxB (ok__law_take T) T.x__law_take hr 0 0 (pal_var 0 (pal_val (pl_bin od_sub (pl_var 1) (pl_own (pl_ixV 2 (pl_neg pl_int) (fun _ _=>rfl)) (pl_ix (pl_var 2) (pl_neg pl_int) (fun _ _=>rfl)))) pal_nil))))))))
  (pms_one (pm_ret (pl_move 2))))))
  sat__law_four
theorem sc__law_plus:FnScope N__law_plus ["_law_one","_law_other"] (defScope s__law_plus):=⟨rfl,rfl,rfl,by decide +kernel,rfl,by decide +kernel,by decide +kernel⟩
set_option maxHeartbeats 0 in
theorem ok__law_plus (T:Tx K mg ad fd):FnOk P w K mg base CX0 2 (ad 21) (fd 21) ["_law_one","_law_other"] (spF K 2 fs__law_plus) :=
 fn_ok (k:=1) T.x__law_plus.f sc__law_plus m__law_plus (fun cdv A outer s H E hr=>(pms_one (pm_ret (pl_cx (ok__law_low T) T.x__law_low hr (pal_val (pl_frz (pl_bin od_add (pl_bin od_mulI (pl_ix (pl_var 0) pl_int (fun _ _=>rfl)) (pl_ix (pl_var 1) pl_int (fun _ _=>rfl))) (pl_bin od_mulI (pl_ix (pl_var 1) pl_int (fun _ _=>rfl)) (pl_ix (pl_var 0) pl_int (fun _ _=>rfl))))) (pal_val (pl_frz (pl_bin od_mulI (pl_ix (pl_var 0) pl_int (fun _ _=>rfl)) (pl_ix (pl_var 1) pl_int (fun _ _=>rfl)))) pal_nil))))))
  sat__law_plus
theorem sc__law_extra:FnScope N__law_extra ["_law_ring_here","_law_ties"] (defScope s__law_extra):=⟨rfl,rfl,rfl,by decide +kernel,rfl,by decide +kernel,by decide +kernel⟩
set_option maxHeartbeats 0 in
theorem ok__law_extra (T:Tx K mg ad fd):FnOk P w K mg base CX0 3 (ad 22) (fd 22) ["_law_ring_here","_law_ties"] (spF K 2 fs__law_extra) :=
 fn_ok (k:=2) T.x__law_extra.f sc__law_extra m__law_extra (fun cdv A outer s H E hr=>(pms_cons (pm_set (i:=2) sc__law_extra.nd rfl (by walk_at "o") (pl_tup (pal_val pl_int (pal_val pl_int pal_nil))))
  (pms_cons (pm_for PassesOwn.never rfl (pil_seq (pl_ix (pl_var 0) pl_int (fun _ _=>rfl))) (tg_tup rfl (tgs_cons (i:=3) sc__law_extra.nd rfl (by walk_at "o") (tgs_cons (i:=4) sc__law_extra.nd rfl (by walk_at "o") (tgs_cons (i:=5) sc__law_extra.nd rfl (by walk_at "o") (tgs_cons (i:=6) sc__law_extra.nd rfl (by walk_at "o") tgs_nil))))) (pms_cons (pm_setC sc__law_extra.nd (j:=7) rfl (by walk_at "o") (sc:=(defScope s__law_extra)) (N:=N__law_extra) (Nt:=["_law_place"]) (Nf:=["_law_ties"]) (fi:=[1]) rfl rfl rfl (pil_seq (pl_tup (pal_val (pl_var 4) (pal_val (pl_var 5) pal_nil)))) rfl (by decide +kernel) (by decide +kernel) (by decide +kernel) (by decide) rfl (by decide +kernel) (by decide) (fun _ _ _ _=>(tc_name (by decide) (show ((["_law_place"]:List Str)++(["_law_ties"]:List Str)).Nodup by decide +kernel) rfl (Or.inl rfl))) (fun _ _ _ _=>pif_nil) (fun _ _ _ _=>(pl_chain ci_lt ci_le (pl_ix (pl_var 1) pl_int (fun _ _=>rfl)) (pl_var 0) (pl_ix (pl_var 1) pl_int (fun _ _=>rfl)))))
  (pms_cons (pm_setC sc__law_extra.nd (j:=8) rfl (by walk_at "o") (sc:=(defScope s__law_extra)) (N:=N__law_extra) (Nt:=["_law_place"]) (Nf:=["_law_ties"]) (fi:=[1]) rfl rfl rfl (pil_seq (pl_tup (pal_val (pl_var 4) (pal_val (pl_var 5) pal_nil)))) rfl (by decide +kernel) (by decide +kernel) (by decide +kernel) (by decide) rfl (by decide +kernel) (by decide) (fun _ _ _ _=>(tc_name (by decide) (show ((["_law_place"]:List Str)++(["_law_ties"]:List Str)).Nodup by decide +kernel) rfl (Or.inl rfl))) (fun _ _ _ _=>pif_nil) (fun _ _ _ _=>(pl_not (pl_chain ci_lt ci_le (pl_ix (pl_var 1) pl_int (fun _ _=>rfl)) (pl_var 0) (pl_ix (pl_var 1) pl_int (fun _ _=>rfl))))))
  (pms_one (pm_if (PBw.pb (pbw_or (PBw.pb (pbw_and (pb_val (pl_ix (pl_var 7) pl_int (fun _ _=>rfl))) (pbw_and1 (pb_val (pl_ix (pl_var 8) pl_int (fun _ _=>rfl)))))) (pbw_or1 (PBw.pb (pbw_and (pb_val (pl_ix (pl_var 7) pl_int (fun _ _=>rfl))) (pbw_and1 (pb_val (pl_ix (pl_var 8) pl_int (fun _ _=>rfl))))))))) (pms_one (pm_set (i:=2) sc__law_extra.nd rfl (by walk_at "o") (pl_cx (ok__law_plus T) T.x__law_plus hr (pal_val (pl_var 2) (pal_val (pl_var 6) pal_nil))))) pms_nil)))))
  (pms_one (pm_ret (pl_move 2))))))
  sat__law_extra
theorem sc__law_times:FnScope N__law_times ["_law_one","_law_other"] (defScope s__law_times):=⟨rfl,rfl,rfl,by decide +kernel,rfl,by decide +kernel,by decide +kernel⟩
set_option maxHeartbeats 0 in
theorem ok__law_times (T:Tx K mg ad fd):FnOk P w K mg base CX0 2 (ad 23) (fd 23) ["_law_one","_law_other"] (spF K 2 fs__law_times) :=
 fn_ok (k:=1) T.x__law_times.f sc__law_times m__law_times (fun cdv A outer s H E hr=>(pms_one (pm_ret (pl_cx (ok__law_low T) T.x__law_low hr (pal_val (pl_frz (pl_bin od_mulI (pl_ix (pl_var 0) pl_int (fun _ _=>rfl)) (pl_ix (pl_var 1) pl_int (fun _ _=>rfl)))) (pal_val (pl_frz (pl_bin od_mulI (pl_ix (pl_var 0) pl_int (fun _ _=>rfl)) (pl_ix (pl_var 1) pl_int (fun _ _=>rfl)))) pal_nil))))))
  sat__law_times
theorem sc__law_apart:FnScope N__law_apart ["_law_cut","_law_one","_law_other"] (defScope s__law_apart):=⟨rfl,rfl,rfl,by decide +kernel,rfl,by decide +kernel,by decide +kernel⟩
set_option maxHeartbeats 0 in
theorem ok__law_apart (T:Tx K mg ad fd):FnOk P w K mg base CX0 1 (ad 24) (fd 24) ["_law_cut","_law_one","_law_other"] (spF K 3 fs__law_apart) :=
 fn_ok (k:=0) T.x__law_apart.f sc__law_apart m__law_apart (fun cdv A outer s H E hr=>(pms_one (pm_ret (pl_cmp (od_ne hr.units) (pl_chain ci_lt ci_le (pl_ix (pl_var 0) pl_int (fun _ _=>rfl)) (pl_var 1) (pl_ix (pl_var 0) pl_int (fun _ _=>rfl))) (pl_chain ci_lt ci_le (pl_ix (pl_var 0) pl_int (fun _ _=>rfl)) (pl_var 2) (pl_ix (pl_var 0) pl_int (fun _ _=>rfl))) (nomark _)))))
  sat__law_apart
theorem sc__law_across:FnScope N__law_across ["_law_ring_here","_law_cut"] (defScope s__law_across):=⟨rfl,rfl,rfl,by decide +kernel,rfl,by decide +kernel,by decide +kernel⟩
set_option maxHeartbeats 0 in
theorem ok__law_across (T:Tx K mg ad fd):FnOk P w K mg base CX0 3 (ad 25) (fd 25) ["_law_ring_here","_law_cut"] (spF K 2 fs__law_across) :=
 fn_ok (k:=2) T.x__law_across.f sc__law_across m__law_across (fun cdv A outer s H E hr=>(pms_cons (pm_set (i:=2) sc__law_across.nd rfl (by walk_at "o") (pl_tup (pal_val pl_int (pal_val pl_int pal_nil))))
  (pms_cons (pm_for PassesOwn.never rfl (pil_seq (pl_ix (pl_var 0) pl_int (fun _ _=>rfl))) (tg_tup rfl (tgs_cons (i:=3) sc__law_across.nd rfl (by walk_at "o") (tgs_cons (i:=4) sc__law_across.nd rfl (by walk_at "o") (tgs_cons (i:=5) sc__law_across.nd rfl (by walk_at "o") (tgs_cons (i:=6) sc__law_across.nd rfl (by walk_at "o") tgs_nil))))) (pms_one (pm_if (pb_val (pl_cx (ok__law_apart T) T.x__law_apart hr (pal_val (pl_var 1) (pal_val (pl_var 4) (pal_val (pl_var 5) pal_nil))))) (pms_one (pm_set (i:=2) sc__law_across.nd rfl (by walk_at "o") (pl_cx (ok__law_plus T) T.x__law_plus hr (pal_val (pl_var 2) (pal_val (pl_var 6) pal_nil))))) pms_nil)))
  (pms_one (pm_ret (pl_move 2))))))
  sat__law_across
theorem sc_law:FnScope N_law ["_law_script"] (defScope s_law):=⟨rfl,rfl,rfl,by decide +kernel,rfl,by decide +kernel,by decide +kernel⟩
set_option maxHeartbeats 0 in
theorem ok_law (T:Tx K mg ad fd):FnOk P w K mg base CX0 8 (ad 26) (fd 26) ["_law_script"] (spF K 1 fs_law) :=
 fn_ok (k:=7) T.x_law.f sc_law m_law (fun cdv A outer s H E hr=>by exact (@pms_cons _ _ _ _ _ (@pm_set _ _ _ 1 _ _ _ sc_law.nd rfl (by walk_at "o") (@pl_frz _ _ _ (pl_cx (ok__law_ring T) T.x__law_ring hr (@pal_val _ _ _ _ _ _ (pl_var 0) (@pal_val _ _ _ _ _ _ pl_int (@pal_val _ _ _ _ _ _ pl_int (@pal_val _ _ _ _ _ _ pl_int pal_nil (by kernel_rfl)) (by kernel_rfl)) (by kernel_rfl)) (by kernel_rfl)))) (by kernel_rfl) (by first | exact .inl rfl | exact .inr rfl)) (@pms_cons _ _ _ _ _ (@pm_set _ _ _ 2 _ _ _ sc_law.nd rfl (by walk_at "o") (@pl_frz _ _ _ (pl_cx (ok__law_copied T) T.x__law_copied hr (@pal_val _ _ _ _ _ _ (pl_var 1) pal_nil (by kernel_rfl)))) (by kernel_rfl) (by first | exact .inl rfl | exact .inr rfl)) (@pms_cons _ _ _ _ _ (@pm_set _ _ _ 3 _ _ _ sc_law.nd rfl (by walk_at "o") (@pl_frz _ _ _ (pl_callD cd_len rfl T.z_len (by decide +kernel) (@pal_val _ _ _ _ _ _ (@pl_ix _ _ _ _ _ _ (pl_var 1) pl_int (fun _ _=>rfl)) pal_nil (by kernel_rfl)))) (by kernel_rfl) (by first | exact .inl rfl | exact .inr rfl)) (@pms_cons _ _ _ _ _ (@pm_set _ _ _ 4 _ _ _ sc_law.nd rfl (by walk_at "o") (@pl_lst _ _ _ _ _ pal_nil) (by kernel_rfl) (by first | exact .inl rfl | exact .inr rfl)) (@pms_cons _ _ _ _ _ (pm_for PassesOwn.never rfl (pil_rng1 rfl T.z_range (pl_var 3)) (tg_name (i:=5) sc_law.nd rfl (by walk_at "o")) (@pms_one _ _ _ (pm_expr (pl_append 4 (pl_comp (sc:=(defScope s_law)) (N:=N_law) (Nt:=[ "_law_other" ]) (Nf:=[ "_law_ring_here" ,"_law_one" ]) (fi:=[1,5]) rfl rfl rfl (pil_rng1 rfl T.z_range (pl_var 3)) rfl (by decide +kernel) (by decide +kernel) (by decide +kernel) (by decide) rfl (by decide +kernel) (by decide) (fun _ _ _ _=>(tc_name (by decide) (show (([ "_law_other" ]:List Str)++([ "_law_ring_here" ,"_law_one" ]:List Str)).Nodup by decide +kernel) rfl (Or.inl rfl))) (fun _ _ _ _=>pif_nil) (fun _ _ _ _=>(pl_cx (ok__law_across T) T.x__law_across hr (@pal_val _ _ _ _ _ _ (pl_var 1) (@pal_val _ _ _ _ _ _ (@pl_tup _ _ _ _ _ _ (@pal_val _ _ _ _ _ _ (@pl_frz _ _ _ (pl_callD (cd_min rfl) rfl T.z_min (by decide +kernel) (@pal_val _ _ _ _ _ _ (pl_var 2) (@pal_val _ _ _ _ _ _ (pl_var 0) pal_nil (by kernel_rfl)) (by kernel_rfl)))) (@pal_val _ _ _ _ _ _ (@pl_frz _ _ _ (pl_callD (cd_max rfl) rfl T.z_max (by decide +kernel) (@pal_val _ _ _ _ _ _ (pl_var 2) (@pal_val _ _ _ _ _ _ (pl_var 0) pal_nil (by kernel_rfl)) (by kernel_rfl)))) pal_nil (by kernel_rfl)) (by kernel_rfl))) pal_nil (by kernel_rfl)) (by kernel_rfl))))))))) (@pms_cons _ _ _ _ _ (pm_fz 4 (@pm_set _ _ _ 6 _ _ _ sc_law.nd rfl (by walk_at "o") (pl_cx (ok_table_of T) T.x_table_of hr (@pal_val _ _ _ _ _ _ (pl_var 1) pal_nil (by kernel_rfl))) (by kernel_rfl) (by first | exact .inl rfl | exact .inr rfl))) (@pms_cons _ _ _ _ _ (@pm_if _ _ _ _ _ _ _ _ (PBw.pb (pbw_or (pb_not (pb_val (pl_peek 6 (pl_isT kit_list rfl T.z_isinstance rfl T.z_list (by decide +kernel) (pl_var 6))))) (pbw_or (pb_peek 4 (pb_peek 6 (pbc (od_ne hr.units) (pl_var 6) (pl_var 4) (nomark _)))) (pbw_or1 (pbc (od_ne hr.units) (pl_peek 6 (pl_comp (sc:=(defScope s_law)) (N:=N_law) (Nt:=[ "_law_row" ]) (Nf:=[]) (fi:=[]) rfl rfl rfl (pil_seq (pl_var 6)) rfl (by decide +kernel) (by decide +kernel) (by decide +kernel) (by decide) rfl (by decide +kernel) (by decide) (fun _ _ _ _=>(tc_name (by decide) (show (([ "_law_row" ]:List Str)++([]:List Str)).Nodup by decide +kernel) rfl (Or.inl rfl))) (fun _ _ _ _=>(pif_one (pb_not (pb_val (pl_isT kit_list rfl T.z_isinstance rfl T.z_list (by decide +kernel) (pl_var 0)))))) (fun _ _ _ _=>(pl_var 0)))) (@pl_lst _ _ _ _ _ pal_nil) (nomark _)))))) (@pms_one _ _ _ (@pm_ret _ _ _ _ pl_bl)) pms_nil) (@pms_cons _ _ _ _ _ (pm_for PassesOwn.never rfl (pil_rng2 rfl T.z_range pl_int (pl_callD (cd_max rfl) rfl T.z_max (by decide +kernel) (@pal_val _ _ _ _ _ _ pl_int (@pal_val _ _ _ _ _ _ (@pl_frz _ _ _ (pl_callD (cd_min rfl) rfl T.z_min (by decide +kernel) (@pal_val _ _ _ _ _ _ (@pl_frz _ _ _ (pl_callD cd_len rfl T.z_len (by decide +kernel) (@pal_val _ _ _ _ _ _ (pl_var 0) pal_nil (by kernel_rfl)))) (@pal_val _ _ _ _ _ _ pl_int pal_nil (by kernel_rfl)) (by kernel_rfl)))) pal_nil (by kernel_rfl)) (by kernel_rfl)))) (tg_name (i:=7) sc_law.nd rfl (by walk_at "o")) (@pms_cons _ _ _ _ _ (pm_asgL (tg_lst rfl (tgs_cons (i:=8) sc_law.nd rfl (by walk_at "o") (tgs_cons (i:=9) sc_law.nd rfl (by walk_at "o") (tgs_cons (i:=10) sc_law.nd rfl (by walk_at "o") (tgs_cons (i:=11) sc_law.nd rfl (by walk_at "o") tgs_nil))))) (pl_cx (ok__law_four T) T.x__law_four hr (@pal_val _ _ _ _ _ _ (pl_cx (ok__law_begun T) T.x__law_begun hr (@pal_val _ _ _ _ _ _ (pl_var 0) (@pal_val _ _ _ _ _ _ (pl_var 7) pal_nil (by kernel_rfl)) (by kernel_rfl))) (@pal_val _ _ _ _ _ _ (pl_var 3) pal_nil (by kernel_rfl)) (by kernel_rfl)))) (@pms_cons _ _ _ _ _ (@pm_set _ _ _ 12 _ _ _ sc_law.nd rfl (by walk_at "o") (@pl_frz _ _ _ (pl_cx (ok_extra_of T) T.x_extra_of hr (@pal_val _ _ _ _ _ _ (pl_var 1) (@pal_val _ _ _ _ _ _ (pl_var 8) (@pal_val _ _ _ _ _ _ (pl_var 9) (@pal_val _ _ _ _ _ _ (pl_var 10) (@pal_val _ _ _ _ _ _ (pl_var 11) pal_nil (by kernel_rfl)) (by kernel_rfl)) (by kernel_rfl)) (by kernel_rfl)) (by kernel_rfl)))) (by kernel_rfl) (by first | exact .inl rfl | exact .inr rfl)) (@pms_cons _ _ _ _ _ (@pm_if _ _ _ _ _ _ _ _ (pbc (od_ne hr.units) (pl_var 12) (pl_cx (ok__law_extra T) T.x__law_extra hr (@pal_val _ _ _ _ _ _ (pl_var 1) (@pal_val _ _ _ _ _ _ (@pl_frz _ _ _ (@pl_lst _ _ _ _ _ (@pal_val _ _ _ _ _ _ (pl_var 8) (@pal_val _ _ _ _ _ _ (pl_var 9) (@pal_val _ _ _ _ _ _ (pl_var 10) (@pal_val _ _ _ _ _ _ (pl_var 11) pal_nil (by kernel_rfl)) (by kernel_rfl)) (by kernel_rfl)) (by kernel_rfl)))) pal_nil (by kernel_rfl)) (by kernel_rfl))) (nomark _)) (@pms_one _ _ _ (@pm_ret _ _ _ _ pl_bl)) pms_nil) (@pms_cons _ _ _ _ _ (@pm_set _ _ _ 13 _ _ _ sc_law.nd rfl (by walk_at "o") (@pl_frz _ _ _ (pl_cx (ok__law_plus T) T.x__law_plus hr (@pal_val _ _ _ _ _ _ (@pl_frz _ _ _ (pl_cx (ok__law_plus T) T.x__law_plus hr (@pal_val _ _ _ _ _ _ (pl_peek 6 (@pl_ix _ _ _ _ _ _ (@pl_ix _ _ _ _ _ _ (pl_var 6) (pl_var 8) (fun _ _=>rfl)) (pl_var 9) (fun _ _=>rfl))) (@pal_val _ _ _ _ _ _ (pl_peek 6 (@pl_ix _ _ _ _ _ _ (@pl_ix _ _ _ _ _ _ (pl_var 6) (pl_var 10) (fun _ _=>rfl)) (pl_var 11) (fun _ _=>rfl))) pal_nil (by kernel_rfl)) (by kernel_rfl)))) (@pal_val _ _ _ _ _ _ (@pl_frz _ _ _ (pl_cx (ok__law_times T) T.x__law_times hr (@pal_val _ _ _ _ _ _ (@pl_tup _ _ _ _ _ _ (@pal_val _ _ _ _ _ _ pl_int (@pal_val _ _ _ _ _ _ pl_int pal_nil (by kernel_rfl)) (by kernel_rfl))) (@pal_val _ _ _ _ _ _ (pl_var 12) pal_nil (by kernel_rfl)) (by kernel_rfl)))) pal_nil (by kernel_rfl)) (by kernel_rfl)))) (by kernel_rfl) (by first | exact .inl rfl | exact .inr rfl)) (@pms_one _ _ _ (@pm_if _ _ _ _ _ _ _ _ (pbc (od_ne hr.units) (pl_cx (ok__law_plus T) T.x__law_plus hr (@pal_val _ _ _ _ _ _ (pl_peek 6 (@pl_ix _ _ _ _ _ _ (@pl_ix _ _ _ _ _ _ (pl_var 6) (pl_var 8) (fun _ _=>rfl)) (pl_var 10) (fun _ _=>rfl))) (@pal_val _ _ _ _ _ _ (pl_peek 6 (@pl_ix _ _ _ _ _ _ (@pl_ix _ _ _ _ _ _ (pl_var 6) (pl_var 9) (fun _ _=>rfl)) (pl_var 11) (fun _ _=>rfl))) pal_nil (by kernel_rfl)) (by kernel_rfl))) (pl_var 13) (nomark _)) (@pms_one _ _ _ (@pm_ret _ _ _ _ pl_bl)) pms_nil))))))) (@pms_cons _ _ _ _ _ (pm_for PassesOwn.never rfl (pil_rng1 rfl T.z_range (pl_var 3)) (tg_name (i:=5) sc_law.nd rfl (by walk_at "o")) (@pms_cons _ _ _ _ _ (@pm_if _ _ _ _ _ _ _ _ (pb_peek 6 (pbc (od_ne hr.units) (pl_peek 6 (@pl_ix _ _ _ _ _ _ (pl_var 6) (pl_var 5) (fun _ _=>rfl))) (@pl_own _ _ _ _ _ (pl_ixV 4 (pl_var 5) (fun _ _=>rfl)) (@pl_ix _ _ _ _ _ _ (pl_var 4) (pl_var 5) (fun _ _=>rfl))) (nomark _))) (@pms_one _ _ _ (@pm_ret _ _ _ _ pl_bl)) pms_nil) (@pms_one _ _ _ (pm_expr (pl_appIn 6 (pl_var 5) pl_non (fun _ _=>rfl)))))) (@pms_one _ _ _ (@pm_ret _ _ _ _ (pl_and (pl_peek 4 (pl_cmp (od_eq hr.units) (pl_cx (ok_table_of T) T.x_table_of hr (@pal_val _ _ _ _ _ _ (pl_var 1) pal_nil (by kernel_rfl))) (pl_var 4) (nomark _))) (pl_one (pl_cmp (od_eq hr.units) (pl_var 1) (pl_var 2) (nomark _))))))))))))))))
  sat_law
end
def adF (i:Nat):Addr:=([21,29,36,43,50,57,62,72,67,84,77,91,98,117,105,112,124,131,138,159,185,145,178,152,166,173,190]:List Addr).getD i 0
abbrev md0:Value:=(.str "ringloads.divisors" 187)
abbrev md1:Value:=(.str "ringloads.ratios" 198)
abbrev md2:Value:=(.str "ringloads.cuts" 229)
abbrev md3:Value:=(.str "ringloads.tables" 254)
abbrev md4:Value:=(.str "law_ringloads_k19_whole_tables_and_extras" 284)
def fdF (i:Nat):FuncData:=[fdM "greatest_shared" s_greatest_shared md0 20,fdM "lowest" s_lowest md1 28,fdM "plus" s_plus md1 35,fdM "sum_of" s_sum_of md1 42,fdM "is_within" s_is_within md2 49,fdM "parts_places" s_parts_places md2 56,fdM "across" s_across md2 61,fdM "row_of" s_row_of md3 71,fdM "table_of" s_table_of md3 66,fdM "reaches_out" s_reaches_out md3 83,fdM "extra_of" s_extra_of md3 76,fdM "_law_begun" s__law_begun md4 90,fdM "_law_take" s__law_take md4 97,fdM "_law_names" s__law_names md4 116,fdM "_law_low" s__law_low md4 104,fdM "_law_amount" s__law_amount md4 111,fdM "_law_rooms" s__law_rooms md4 123,fdM "_law_ends" s__law_ends md4 130,fdM "_law_ring" s__law_ring md4 137,fdM "_law_copied" s__law_copied md4 158,fdM "_law_four" s__law_four md4 184,fdM "_law_plus" s__law_plus md4 144,fdM "_law_extra" s__law_extra md4 177,fdM "_law_times" s__law_times md4 151,fdM "_law_apart" s__law_apart md4 165,fdM "_law_across" s__law_across md4 172,fdM "law" s_law md4 189].getD i (fdM "law" s_law md0 0)
set_option maxHeartbeats 0 in
theorem tx {Pm:Params} {h:Heap} {mg:Str→Option Value} (X:(Hd.Kf Pm).In h) (G:h.Ns mainGlobals mg):Tx (Hd.Kf Pm) mg adF fdF where
 x_greatest_shared:=FX.mk' X G (a:=21) (c:=20) (md:=md0) (by kernel_rfl) (by kernel_rfl) (by kernel_rfl) (by kernel_rfl) fun _ _ _ _ _ _ u l=>match u,l with | [_,_],_=>rfl
 x_lowest:=FX.mk' X G (a:=29) (c:=28) (md:=md1) (by kernel_rfl) (by kernel_rfl) (by kernel_rfl) (by kernel_rfl) fun _ _ _ _ _ _ u l=>match u,l with | [_,_],_=>rfl
 x_plus:=FX.mk' X G (a:=36) (c:=35) (md:=md1) (by kernel_rfl) (by kernel_rfl) (by kernel_rfl) (by kernel_rfl) fun _ _ _ _ _ _ u l=>match u,l with | [_,_],_=>rfl
 x_sum_of:=FX.mk' X G (a:=43) (c:=42) (md:=md1) (by kernel_rfl) (by kernel_rfl) (by kernel_rfl) (by kernel_rfl) fun _ _ _ _ _ _ u l=>match u,l with | [_],_=>rfl
 x_is_within:=FX.mk' X G (a:=50) (c:=49) (md:=md2) (by kernel_rfl) (by kernel_rfl) (by kernel_rfl) (by kernel_rfl) fun _ _ _ _ _ _ u l=>match u,l with | [_,_],_=>rfl
 x_parts_places:=FX.mk' X G (a:=57) (c:=56) (md:=md2) (by kernel_rfl) (by kernel_rfl) (by kernel_rfl) (by kernel_rfl) fun _ _ _ _ _ _ u l=>match u,l with | [_,_,_],_=>rfl
 x_across:=FX.mk' X G (a:=62) (c:=61) (md:=md2) (by kernel_rfl) (by kernel_rfl) (by kernel_rfl) (by kernel_rfl) fun _ _ _ _ _ _ u l=>match u,l with | [_,_],_=>rfl
 x_row_of:=FX.mk' X G (a:=72) (c:=71) (md:=md3) (by kernel_rfl) (by kernel_rfl) (by kernel_rfl) (by kernel_rfl) fun _ _ _ _ _ _ u l=>match u,l with | [_,_],_=>rfl
 x_table_of:=FX.mk' X G (a:=67) (c:=66) (md:=md3) (by kernel_rfl) (by kernel_rfl) (by kernel_rfl) (by kernel_rfl) fun _ _ _ _ _ _ u l=>match u,l with | [_],_=>rfl
 x_reaches_out:=FX.mk' X G (a:=84) (c:=83) (md:=md3) (by kernel_rfl) (by kernel_rfl) (by kernel_rfl) (by kernel_rfl) fun _ _ _ _ _ _ u l=>match u,l with | [_,_,_,_],_=>rfl
 x_extra_of:=FX.mk' X G (a:=77) (c:=76) (md:=md3) (by kernel_rfl) (by kernel_rfl) (by kernel_rfl) (by kernel_rfl) fun _ _ _ _ _ _ u l=>match u,l with | [_,_,_,_,_],_=>rfl
 x__law_begun:=FX.mk' X G (a:=91) (c:=90) (md:=md4) (by kernel_rfl) (by kernel_rfl) (by kernel_rfl) (by kernel_rfl) fun _ _ _ _ _ _ u l=>match u,l with | [_,_],_=>rfl
 x__law_take:=FX.mk' X G (a:=98) (c:=97) (md:=md4) (by kernel_rfl) (by kernel_rfl) (by kernel_rfl) (by kernel_rfl) fun _ _ _ _ _ _ u l=>match u,l with | [_,_],_=>rfl
 x__law_names:=FX.mk' X G (a:=117) (c:=116) (md:=md4) (by kernel_rfl) (by kernel_rfl) (by kernel_rfl) (by kernel_rfl) fun _ _ _ _ _ _ u l=>match u,l with | [_,_],_=>rfl
 x__law_low:=FX.mk' X G (a:=105) (c:=104) (md:=md4) (by kernel_rfl) (by kernel_rfl) (by kernel_rfl) (by kernel_rfl) fun _ _ _ _ _ _ u l=>match u,l with | [_,_],_=>rfl
 x__law_amount:=FX.mk' X G (a:=112) (c:=111) (md:=md4) (by kernel_rfl) (by kernel_rfl) (by kernel_rfl) (by kernel_rfl) fun _ _ _ _ _ _ u l=>match u,l with | [_,_,_],_=>rfl
 x__law_rooms:=FX.mk' X G (a:=124) (c:=123) (md:=md4) (by kernel_rfl) (by kernel_rfl) (by kernel_rfl) (by kernel_rfl) fun _ _ _ _ _ _ u l=>match u,l with | [_,_,_],_=>rfl
 x__law_ends:=FX.mk' X G (a:=131) (c:=130) (md:=md4) (by kernel_rfl) (by kernel_rfl) (by kernel_rfl) (by kernel_rfl) fun _ _ _ _ _ _ u l=>match u,l with | [_,_,_,_],_=>rfl
 x__law_ring:=FX.mk' X G (a:=138) (c:=137) (md:=md4) (by kernel_rfl) (by kernel_rfl) (by kernel_rfl) (by kernel_rfl) fun _ _ _ _ _ _ u l=>match u,l with | [_,_,_,_],_=>rfl
 x__law_copied:=FX.mk' X G (a:=159) (c:=158) (md:=md4) (by kernel_rfl) (by kernel_rfl) (by kernel_rfl) (by kernel_rfl) fun _ _ _ _ _ _ u l=>match u,l with | [_],_=>rfl
 x__law_four:=FX.mk' X G (a:=185) (c:=184) (md:=md4) (by kernel_rfl) (by kernel_rfl) (by kernel_rfl) (by kernel_rfl) fun _ _ _ _ _ _ u l=>match u,l with | [_,_],_=>rfl
 x__law_plus:=FX.mk' X G (a:=145) (c:=144) (md:=md4) (by kernel_rfl) (by kernel_rfl) (by kernel_rfl) (by kernel_rfl) fun _ _ _ _ _ _ u l=>match u,l with | [_,_],_=>rfl
 x__law_extra:=FX.mk' X G (a:=178) (c:=177) (md:=md4) (by kernel_rfl) (by kernel_rfl) (by kernel_rfl) (by kernel_rfl) fun _ _ _ _ _ _ u l=>match u,l with | [_,_],_=>rfl
 x__law_times:=FX.mk' X G (a:=152) (c:=151) (md:=md4) (by kernel_rfl) (by kernel_rfl) (by kernel_rfl) (by kernel_rfl) fun _ _ _ _ _ _ u l=>match u,l with | [_,_],_=>rfl
 x__law_apart:=FX.mk' X G (a:=166) (c:=165) (md:=md4) (by kernel_rfl) (by kernel_rfl) (by kernel_rfl) (by kernel_rfl) fun _ _ _ _ _ _ u l=>match u,l with | [_,_,_],_=>rfl
 x__law_across:=FX.mk' X G (a:=173) (c:=172) (md:=md4) (by kernel_rfl) (by kernel_rfl) (by kernel_rfl) (by kernel_rfl) fun _ _ _ _ _ _ u l=>match u,l with | [_,_],_=>rfl
 x_law:=FX.mk' X G (a:=190) (c:=189) (md:=md4) (by kernel_rfl) (by kernel_rfl) (by kernel_rfl) (by kernel_rfl) fun _ _ _ _ _ _ u l=>match u,l with | [_],_=>rfl
 z_abs:=PySem.W.mg_none_of X G (by kernel_rfl)
 z_int:=PySem.W.mg_none_of X G (by kernel_rfl)
 z_isinstance:=PySem.W.mg_none_of X G (by kernel_rfl)
 z_len:=PySem.W.mg_none_of X G (by kernel_rfl)
 z_list:=PySem.W.mg_none_of X G (by kernel_rfl)
 z_max:=PySem.W.mg_none_of X G (by kernel_rfl)
 z_min:=PySem.W.mg_none_of X G (by kernel_rfl)
 z_range:=PySem.W.mg_none_of X G (by kernel_rfl)
 g_NOUGHT:=globT_mk (PySem.W.mg_of X G (v:=.ref 22) (by kernel_rfl)) (show (Hd.Kf Pm).lookup 22=some (Obj.mk (.type "tuple") none (.seq #[(.int 0 200),(.int 1 201)] 0) #[]) by kernel_rfl) ⟨_,_,[L2.V.int 0,L2.V.int 1],_,rfl,rfl,rfl,by decide,(.cons ⟨_,rfl⟩ (.cons ⟨_,rfl⟩ .nil)),fun K H=>(.cons (.int _) (.cons (.int _) .nil))⟩
theorem walkF (w:World) (mg:Str→Option Value) (fa:Addr) (h:Heap) (X:(Hd.Kf w.params).In h) (G:h.Ns mainGlobals mg) (hmg:mg "law"=some (.ref fa)) :
  ∃ fd:FuncData,(∀ (s:Shared) (u:Value),BindsTo s fd ⟨[u],[]⟩ [("_law_script",u)])∧∀ base:Heap,(Hd.Kf w.params).In base→base.Ns mainGlobals mg→FnOk PySem.Challenge.pw_ringloads_k19_whole_tables_and_extras w (Hd.Kf w.params) mg base CX0 8 fa fd ["_law_script"] (spF (Hd.Kf w.params) 1 fs_law):=by
 have T:=tx X G
 have e:=hmg.symm.trans T.x_law.m
 cases e
 exact ⟨_,fun s v=>.of_eq rfl,fun base _ _=>ok_law T⟩
theorem walk {l:PySem.W.OpenLaw} {q:Program} {loose:List Str} {XP:(Str→Option Value)→Heap→Prop} {YP:World→Heap→Prop} {d:DefRec} {K:Params→PySem.W.Frag} (hn:l.most=some 63) (hq:PyProof.Rows.importsNone q=true) (hdf:d.params.defaults=[])
  (hY:∀ (w:World) (h:Heap),YP w h→(K w.params).In h)
  (F:∀ (w:World) (mg:Str→Option Value) (fa:Addr) (h:Heap),(K w.params).In h→h.Ns mainGlobals mg→mg d.name=some (.ref fa) →
   ∃ fd:FuncData,(∀ (s:Shared) (u:Value),BindsTo s fd ⟨[u],[]⟩ [("_law_script",u)])∧∀ base:Heap,(K w.params).In base→base.Ns mainGlobals mg→FnOk l.prog w (K w.params) mg base CX0 8 fa fd ["_law_script"] (spF (K w.params) 1 fs_law)) :
  PySem.W.WalkO q loose XP YP l.row.toRowW d [] (fun f vs=>PySem.call f vs) :=
 L2.walk_of (n:=63) (k:=8) (x:="_law_script") (CX:=fun _=>CX0) (sp:=fun w=>spF (K w.params) 1 fs_law) hn hq (by decide) hdf ⟨rfl,by decide,by decide,rfl⟩ hY F (fun _ H a ns hl hO hS=>law_start hl hO hS (law_holds hl)) fun _ _ _ _ _ z=>z
end My
open PySem PySem.W PyProof.Rows
abbrev PySem.W.Fast.tw14001205943287014263:PySem.Program:=PySem.Challenge.pw_ringloads_k19_whole_tables_and_extras
theorem PySem.W.Fast.te14001205943287014263:PySem.Challenge.pw_ringloads_k19_whole_tables_and_extras=PySem.W.Fast.tw14001205943287014263:=rfl
set_option maxRecDepth 100000 in
set_option maxHeartbeats 0 in
theorem PySem.Challenge.cw_ringloads_k19_whole_tables_and_extras_holds : PySem.Challenge.rw_ringloads_k19_whole_tables_and_extras.Holds := by
 w_on; o_law
 refine PySem.W.holds_open (q:=Hd.q) (loose:=Hd.loose) (Xt:=Hd.Xt) (XP:=XL Hd.q []) (Yf:=Hook.obs Hd.Hk) (Ya:=Hook.val Hd.Hk) (YP:=Hook.says Hd.Hk) (N:=_) Hd.left (Hook.of Hd.Hk) (Hook.keeps Hd.Hk) (fun s e=>xl_of s (Bool.and_eq_true_iff.mp e).1) XL.keeps (by rfl) (by rfl) (by rfl) (fun s e=>recFacts_of (Bool.and_eq_true_iff.mp e).2) (by rfl) (by assumption) (by decide +kernel) ⟨rfl,rfl,rfl,rfl,rfl,by decide +kernel⟩ ?hw ?hc
 case hw=>w_witness2
 case hc=>exact My.walk (l:=PySem.Challenge.rw_ringloads_k19_whole_tables_and_extras) (K:=Hd.Kf) rfl (by decide +kernel) rfl (fun w h Y=>PySem.W.kIn_of Y) My.walkF
