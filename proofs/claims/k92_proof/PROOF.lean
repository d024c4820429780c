import PyProof.Rows.All
import Wide.All
import OpenK.AllK
import Wide.FinOn
import Lean
import PyProof.EqAt
import PyProof.EqKinds
import PyProof.TupleCall
import PyProof.Rows.EqDataRows
import PyProof.ReprRoads
import PyProof.Rows.Range3
import PyProof.ConsumeWalk
import PyProof.FString5
import PyProof.ReprLen
import PyProof.Rows.TupAdd
import PyProof.Rows.RuleIs
import PyProof.ListNew
import KE.KRevIter
import PySem.Challenge.RW_ringloads_k92_whole_all_ways_walked
set_option Elab.async false
set_option linter.all false
set_option maxRecDepth 100000
namespace L2
open PySem PySem.Spec PyProof.Rows
abbrev Key:=Sum Int Str
def keyIs:Key→Value→Bool
 | .inl k,v=>Value.isInt k v
 | .inr x,v=>Value.isStrOf x v
def keyH (w:World):Key→Int
 | .inl k=>hashInt k
 | .inr x=>hashStr w x
theorem bh:∀ {k:Key} {v:Value},keyIs k v=true→(∃ i t,k=Sum.inl i∧v=Value.int i t)∨(∃ x t,k=Sum.inr x∧v=Value.str x t)
 | .inl i,v,h=>by
  obtain ⟨t,e⟩:=Value.isInt_shape (k:=i) (v:=v) h
  exact .inl ⟨i,t,rfl,e⟩
 | .inr x,v,h=>by
  obtain ⟨t,e⟩:=Value.isStrOf_shape (x:=x) (v:=v) h
  exact .inr ⟨x,t,rfl,e⟩
theorem key_ll (a b:Int):decide ((Sum.inl a:Key)=Sum.inl b)=(a == b):=by
 by_cases e:a=b
 ·
  subst e; simp
 ·
  have h:¬ (Sum.inl a:Key)=Sum.inl b:=fun q=>e (Sum.inl.inj q)
  rw [decide_eq_false h]
  exact (beq_eq_false_iff_ne.mpr e).symm
theorem key_rr (a b:Str):decide ((Sum.inr a:Key)=Sum.inr b)=decide (a=b):=by
 by_cases e:a=b
 ·
  subst e; simp
 ·
  have h:¬ (Sum.inr a:Key)=Sum.inr b:=fun q=>e (Sum.inr.inj q)
  rw [decide_eq_false h,decide_eq_false e]
theorem key_lr (a:Int) (b:Str):decide ((Sum.inl a:Key)=Sum.inr b)=false:=decide_eq_false (fun q=>nomatch q)
theorem key_rl (a:Str) (b:Int):decide ((Sum.inr a:Key)=Sum.inl b)=false:=decide_eq_false (fun q=>nomatch q)
def mixKind (prog:Program) (w:World):PySem.KeyKind prog w Key where
 is:=keyIs
 hash:=keyH w
 inj:=fun v a b ha hb=>by
  rcases bh ha with ⟨i,t,rfl,rfl⟩ | ⟨x,t,rfl,rfl⟩
  ·
   rcases bh hb with ⟨j,u,rfl,e⟩ | ⟨y,u,rfl,e⟩
   ·
    injection e with e1 _; rw [e1]
   ·
    exact nomatch e
  ·
   rcases bh hb with ⟨j,u,rfl,e⟩ | ⟨y,u,rfl,e⟩
   ·
    exact nomatch e
   ·
    injection e with e1 _; rw [e1]
 byValue:=fun k v h=>by
  rcases bh h with ⟨i,t,rfl,rfl⟩ | ⟨x,t,rfl,rfl⟩ <;> rfl
 pyHash:=fun hv h=>by
  rcases bh hv with ⟨i,t,rfl,rfl⟩ | ⟨x,t,rfl,rfl⟩
  ·
   exact wpAny_pyHash_int h
  ·
   exact wpAny_pyHash_str h
 eqBool:=fun hu hv h=>by
  rcases bh hu with ⟨i,t,rfl,rfl⟩ | ⟨x,t,rfl,rfl⟩
  ·
   rcases bh hv with ⟨j,u,rfl,rfl⟩ | ⟨y,u,rfl,rfl⟩
   ·
    rw [key_ll] at h; exact wpAny_eqBool_int h
   ·
    rw [key_lr] at h; exact SeqAt.EqAt.int_str i t y u _ _ _ _ h
  ·
   rcases bh hv with ⟨j,u,rfl,rfl⟩ | ⟨y,u,rfl,rfl⟩
   ·
    rw [key_rl] at h; exact SeqAt.EqAt.str_int x t j u _ _ _ _ h
   ·
    rw [key_rr] at h; exact wpAny_eqBool_str h
 «strs»:=fun k x t v h=>by
  rcases bh h with ⟨i,u,rfl,e⟩ | ⟨y,u,rfl,e⟩
  ·
   exact nomatch e
  ·
   injection e with e1 _
   subst e1
   cases v <;> rfl
end L2
namespace L2
open PySem PySem.Spec PyProof.Rows
inductive V where
 | non | bl (b:Bool) | int (i:Int) | str (x:Str) | byt (b:Array UInt8) | flt (b:UInt64) | ref (a:Addr) | ty (n:String)
 deriving DecidableEq
def RelV:V→Value→Prop
 | .non,u=>u=Value.none
 | .bl b,u=>u=Value.bool b
 | .int i,u=>∃ t,u=Value.int i t
 | .str x,u=>∃ t,u=Value.str x t
 | .byt b,u=>∃ t,u=Value.bytes b t
 | .flt b,u=>∃ t,u=Value.float b t
 | .ref a,u=>u=Value.ref a
 | .ty n,u=>u=Value.type n
abbrev Vals:List V→List Value→Prop:=Paired RelV
theorem Vals.length {xs:List V} {us:List Value} (r:Vals xs us):xs.length=us.length:=Paired.length r
theorem Vals.get:∀ {xs:List V} {us:List Value} {i:Nat} {x:V},Vals xs us→xs[i]?=some x→∃ u,us[i]?=some u∧RelV x u
 | _,_,_,_,.nil,e=>by simp at e
 | _,_,0,_,.cons r _,e=>by simp at e; subst e; exact ⟨_,rfl,r⟩
 | _,_,i+1,x,.cons _ t,e=>by
  obtain ⟨u,h1,h2⟩:=Vals.get (i:=i) (x:=x) t (by simpa using e)
  exact ⟨u,by simpa using h1,h2⟩
theorem Vals.set {x:V} {u:Value} (r:RelV x u):∀ {xs:List V} {us:List Value} (i:Nat),Vals xs us→Vals (xs.set i x) (us.set i u)
 | _,_,_,.nil=>.nil
 | _,_,0,.cons _ t=>.cons r t
 | _,_,i+1,.cons q t=>.cons q (Vals.set r i t)
theorem Vals.append:∀ {xs ys:List V} {us ws:List Value},Vals xs us→Vals ys ws→Vals (xs++ys) (us++ws)
 | _,_,_,_,.nil,s=>s
 | _,_,_,_,.cons r t,s=>.cons r (Vals.append t s)
theorem Vals.take:∀ {xs:List V} {us:List Value} (n:Nat),Vals xs us→Vals (xs.take n) (us.take n)
 | _,_,0,_=>.nil
 | _,_,_+1,.nil=>.nil
 | _,_,n+1,.cons r t=>.cons r (Vals.take n t)
theorem Vals.drop:∀ {xs:List V} {us:List Value} (n:Nat),Vals xs us→Vals (xs.drop n) (us.drop n)
 | _,_,0,r=>r
 | _,_,_+1,.nil=>.nil
 | _,_,n+1,.cons _ t=>Vals.drop n t
def RelO:Option V→Option Value→Prop
 | some v,some u=>RelV v u
 | none,none=>True
 | _,_=>False
def KV {κ:Type}:List (κ×V)→List (κ×Value)→Prop:=Paired fun (p:κ×V) (q:κ×Value)=>p.1=q.1∧RelV p.2 q.2
def kV:Key→V
 | .inl i=>.int i
 | .inr x=>.str x
inductive HO where
 /-- a list -/
 | lst (xs:List V)
 /-- a tuple (never changes) -/
 | tup (xs:List V)
 /-- a dict whose keys are ints and texts; one whose keys are tuples of ints and texts (the empty one is both) -/
 | dK (kvs:List (Key×V)) | dT (kvs:List (List Key×V))
 /-- a set of ints: its members,its size -/
 | set (S:Int→Bool) (n:Nat)
 /-- an instance of the class at C,its dict at dx,its attributes -/
 | ins (C dx:Addr) (fs:List (Str×V))
 /-- the dict of the instance at x -/
 | own (x:Addr)
 /-- the dict of an exception -/
 | xd (fs:List (Str×V))
 /-- a bound method,f of x -/
 | met (f x:Addr)
 /-- a range object lo,lo+1,.. below hi -/
 | rng (lo hi:Int)
 /-- a thing that is known to the object (the script; a dict while a loop walks it): read,never written while it is so -/
 | frz (o:Obj) (u:HO)
 /-- a code object's table -/
 | tbl (ps:Array Value)
 /-- any other thing,by what is true of its one object (a def of one's own: SetO a S n:=HO.ext fun h=>..) -/
 | ext (φ:Heap→Prop)
abbrev Hp:=Addr→Option HO
def upd (H:Hp) (a:Addr) (o:HO):Hp:=fun b=>if b=a then some o else H b
theorem bT {H:Hp} {a:Addr} {o:HO}:upd H a o a=some o:=by unfold upd; rw [if_pos rfl]
theorem aI {H:Hp} {a b:Addr} {o:HO} (h:b≠a):upd H a o b=H b:=by unfold upd; rw [if_neg h]
theorem ca {H:Hp} {a b:Addr} {o:HO} (h:H a=some o) (h':H b=none):a≠b:=by
 intro e; subst e; rw [h] at h'; cases h'
section
variable (P:Program) (w:World)
def ObjOk (H:Hp) (h:Heap) (a:Addr):HO→Prop
 | .lst xs=>xs.length≤sizeLine∧∃ (its:List Value) (n:Nat),Vals xs its∧h.get? a=some { cls:=.type "list",data:=.seq its.toArray n }
 | .tup xs=>xs.length≤sizeLine∧∃ its:List Value,Vals xs its∧IsTup h a its.toArray
 | .dK kvs=>kvs.length≤sizeLine∧(a == sysModules)=false∧∃ vs,KV kvs vs∧h.DictOf (mixKind P w) a vs
 | .dT kvs=>kvs.length≤sizeLine∧(a == sysModules)=false∧∃ xs:List (List Key×Addr×Value),
   Paired (fun (p:List Key×V) (q:List Key×Addr×Value)=>p.1=q.1∧H q.2.1=some (.tup (p.1.map kV))∧RelV p.2 q.2.2) kvs xs ∧
   ∃ o es ep,h.get? a=some o∧o.ExactDict∧o.data=.dict es ep∧es.toList=xs.map (entryOfKey (tupleKind (mixKind P w)))∧(xs.map (·.1)).Nodup
 | .set S n=>h.SetOf (intKind P w) a S n
 | .ins C dx fs=>H dx=some (.own a)∧fs.length≤1000∧dx≠a∧h.get? a=some (PySem.W.instObj C dx) ∧
   ∃ mA,h.Ns1 dx mA∧(∀ f,RelO (fs.lookup f) (mA f))∧PySem.Within mA (fs.map (·.1))
 | .own _=>∃ o,h.get? a=some o
 | .xd fs=>∃ mA,h.Ns1 a mA∧∀ f,RelO (fs.lookup f) (mA f)
 | .rng lo hi=>∃ t u v,h.get? a=some { cls:=.type "range",data:=.fields #[.int lo t,.int hi u,.int 1 v] }
 | .frz o u=>h.get? a=some o∧ObjOk H h a u
 | .tbl ps=>h.get? a=some { cls:=.none,data:=.fields ps }
 | .met f x=>h.get? a=some (PySem.W.methodObj (.ref f) (.ref x))
 | .ext φ=>φ h∧(∃ o,h.get? a=some o)∧∀ h1 h2:Heap,φ h1→(∀ o,h1.get? a=some o→h2.get? a=some o)→φ h2
def HOk (H:Hp) (h:Heap):Prop:=∀ a o,H a=some o→ObjOk P w H h a o
end
section
variable {P:Program} {w:World} {H H':Hp} {h h':Heap} {a:Addr} {o:HO}
theorem ObjOk.lt (x:ObjOk P w H h a o):a < h.objs.size:=by
 cases o with
 | lst xs=>obtain ⟨_,_,_,_,e⟩:=x; exact Heap.lt_size e
 | tup xs=>obtain ⟨_,_,_,p⟩:=x; exact p.lt
 | dK kvs=>obtain ⟨_,_,_,_,o,_,_,e,_⟩:=x; exact Heap.lt_size e
 | dT kvs=>obtain ⟨_,_,_,_,o,_,_,e,_⟩:=x; exact Heap.lt_size e
 | set S n=>obtain ⟨o,_,_,_,e,_⟩:=x; exact Heap.lt_size e
 | ins C dx fs=>obtain ⟨_,_,_,e,_⟩:=x; exact Heap.lt_size e
 | own y=>obtain ⟨_,e⟩:=x; exact Heap.lt_size e
 | xd fs=>obtain ⟨_,⟨_,_,_,e,_⟩,_⟩:=x; exact Heap.lt_size e
 | rng lo hi=>obtain ⟨_,_,_,e⟩:=x; exact Heap.lt_size e
 | frz ob u=>obtain ⟨e,_⟩:=x; exact Heap.lt_size e
 | tbl ps=>exact Heap.lt_size (show h.get? a=some _ from x)
 | met f y=>exact Heap.lt_size (show h.get? a=some _ from x)
 | ext φ=>obtain ⟨_,⟨_,e⟩,_⟩:=x; exact Heap.lt_size e
theorem Paired.mapP {α β:Type} {F G:α→β→Prop}:∀ {l₁:List α} {l₂:List β},Paired F l₁ l₂→(∀ a b,F a b→G a b)→Paired G l₁ l₂
 | _,_,.nil,_=>.nil
 | _,_,.cons r t,f=>.cons (f _ _ r) (Paired.mapP t f)
theorem ObjOk.stay (x:ObjOk P w H h a o) (k:∀ b u,(b=a∨H b=some (.own a))→h.get? b=some u→h'.get? b=some u)
  (ho:∀ b,H b=some (.own a)→H' b=some (.own a)) (ht:∀ b xs,H b=some (.tup xs)→H' b=some (.tup xs)):ObjOk P w H' h' a o:=by
 induction o with
 | lst xs=>obtain ⟨z,its,n,r,e⟩:=x; exact ⟨z,its,n,r,k _ _ (.inl rfl) e⟩
 | tup xs=>obtain ⟨z,its,r,ob,e,c⟩:=x; exact ⟨z,its,r,ob,k _ _ (.inl rfl) e,c⟩
 | dK kvs=>obtain ⟨z,y,vs,r,ob,es,ep,e,c⟩:=x; exact ⟨z,y,vs,r,ob,es,ep,k _ _ (.inl rfl) e,c⟩
 | dT kvs =>
  obtain ⟨z,y,xs,r,ob,es,ep,e,c⟩:=x
  exact ⟨z,y,xs,Paired.mapP r fun p q z=>⟨z.1,ht _ _ z.2.1,z.2.2⟩,ob,es,ep,k _ _ (.inl rfl) e,c⟩
 | set S n=>obtain ⟨ob,es,ep,t,e,c⟩:=x; exact ⟨ob,es,ep,t,k _ _ (.inl rfl) e,c⟩
 | ins C dx fs =>
  obtain ⟨d,z,ne,e,mA,⟨od,es,ep,e2,c⟩,r⟩:=x
  exact ⟨ho _ d,z,ne,k _ _ (.inl rfl) e,mA,⟨od,es,ep,k _ _ (.inr d) e2,c⟩,r⟩
 | own y=>obtain ⟨ob,e⟩:=x; exact ⟨ob,k _ _ (.inl rfl) e⟩
 | xd fs=>obtain ⟨mA,⟨od,es,ep,e,c⟩,r⟩:=x; exact ⟨mA,⟨od,es,ep,k _ _ (.inl rfl) e,c⟩,r⟩
 | rng lo hi=>obtain ⟨t,u,v,e⟩:=x; exact ⟨t,u,v,k _ _ (.inl rfl) e⟩
 | frz ob u ih=>obtain ⟨e,q⟩:=x; exact ⟨k _ _ (.inl rfl) e,ih q⟩
 | tbl ps =>
  have e:h.get? a=some { cls:=.none,data:=.fields ps }:=x
  show h'.get? a=some { cls:=.none,data:=.fields ps }
  exact k a _ (.inl rfl) e
 | met f y =>
  have e:h.get? a=some (PySem.W.methodObj (.ref f) (.ref y)):=x
  show h'.get? a=some (PySem.W.methodObj (.ref f) (.ref y))
  exact k a _ (.inl rfl) e
 | ext φ=>obtain ⟨p,⟨o,e⟩,st⟩:=x; exact ⟨st _ _ p fun o q=>k _ _ (.inl rfl) q,⟨o,k _ _ (.inl rfl) e⟩,st⟩
theorem HOk.lt (x:HOk P w H h) (e:H a=some o):a < h.objs.size:=(x a o e).lt
theorem HOk.fresh (x:HOk P w H h) (e:h.objs.size≤a):H a=none:=by
 cases q:H a with
 | none=>rfl
 | some u=>exact absurd (Nat.lt_of_lt_of_le (x.lt q) e) (Nat.lt_irrefl _)
theorem HOk.kept (x:HOk P w H h) (k:∀ b u,h.get? b=some u→h'.get? b=some u):HOk P w H h':=fun a o e =>
 (x a o e).stay (fun b u _ q=>k b u q) (fun _ q=>q) fun _ _ q=>q
theorem HOk.laid (x:HOk P w H h) (k:∀ b u,h.get? b=some u→h'.get? b=some u) (hp:h.objs.size≤a) (new:ObjOk P w (upd H a o) h' a o):HOk P w (upd H a o) h':=fun b u e=>by
 have hn:=x.fresh hp
 by_cases hb:b=a
 ·
  subst hb; rw [bT] at e; cases e; exact new
 ·
  rw [aI hb] at e
  exact (x b u e).stay (fun c v _ q=>k c v q) (fun c q=>by rw [aI (ca q hn)]; exact q) fun c xs q=>by rw [aI (ca q hn)]; exact q
end
def Rd (H:Hp) (a:Addr) (u:HO):Prop:=H a=some u∨∃ o,H a=some (.frz o u)
theorem Rd.of {H:Hp} {a:Addr} {u:HO} (h:H a=some u):Rd H a u:=.inl h
theorem Rd.ok {P:Program} {w:World} {H:Hp} {h:Heap} {a:Addr} {u:HO} (r:Rd H a u) (x:HOk P w H h):ObjOk P w H h a u:=by
 rcases r with r | ⟨o,r⟩
 ·
  exact x a u r
 ·
  obtain ⟨_,q⟩:=x a _ r
  exact q
def Mut:Option HO→Prop
 | some (.lst _)=>True
 | some (.dK _)=>True
 | some (.dT _)=>True
 | some (.set _ _)=>True
 | some (.ins _ _ _)=>True
 | some (.ext _)=>True
 | _=>False
section
variable {P:Program} {w:World} {H:Hp} {h h':Heap} {x e:Addr} {o':HO}
theorem HOk.write (ok:HOk P w H h) (mu:Mut (H x)) (he:e=x∨H e=some (.own x)) (k:∀ b u,b≠e→h.get? b=some u→h'.get? b=some u) (heo:∃ u,h'.get? e=some u)
  (new:ObjOk P w (upd H x o') h' x o'):HOk P w (upd H x o') h':=fun b u q=>by
 have nown:∀ c y,H c=some (.own y)→c≠x:=fun c y r z=>by subst z; rw [r] at mu; exact mu
 have ntup:∀ c xs,H c=some (.tup xs)→c≠x:=fun c xs r z=>by subst z; rw [r] at mu; exact mu
 by_cases hb:b=x
 ·
  subst hb; rw [bT] at q; cases q; exact new
 ·
  rw [aI hb] at q
  by_cases hbe:b=e
  ·
   have q':H b=some (.own x):=by
    rcases he with z | z
    ·
     exact absurd (hbe.trans z) hb
    ·
     rw [hbe]; exact z
   rw [q] at q'; cases q'
   obtain ⟨v,hv⟩:=heo
   exact ⟨v,by rw [hbe]; exact hv⟩
  ·
   refine (ok b u q).stay (fun c v hc r=>k c v ?_ r) (fun c r=>by rw [aI (nown c b r)]; exact r) fun c xs r=>by rw [aI (ntup c xs r)]; exact r
   rcases hc with rfl | hc
   ·
    exact hbe
   ·
    rintro rfl
    rcases he with z | z
    ·
     exact nown c b hc z
    ·
     rw [hc] at z; cases z; exact hb rfl
end
structure Un (fs ex:List Addr) (H H':Hp) (h h':Heap):Prop where
 keep:∀ b o,h.get? b=some o→H b=none→b∉fs→b∉ex→h'.get? b=some o
 slot:∀ b o,h.get? b=some o→H b=none→b∈fs→b∉ex→∃ sl,h'.get? b=some { o with slots:=sl }
 free:∀ b o,h.get? b=some o→H b=none→b∉ex→H' b=none
 there:∀ b o,h.get? b=some o→b∉ex→∃ o',h'.get? b=some o'
 tups:∀ b xs,H b=some (.tup xs)→H' b=some (.tup xs)
 frzs:∀ b o u,H b=some (.frz o u)→H' b=some (.frz o u)
 tbls:∀ b ps,H b=some (.tbl ps)→∃ more,H' b=some (.tbl (ps++more))
section
variable {fs fs' ex ex':List Addr} {H H1 H2:Hp} {h h1 h2 h':Heap} {a x e:Addr} {o:HO}
theorem Un.any (u:Un fs ex H H1 h h1) {b:Addr} {ob:Obj} (q:h.get? b=some ob) (n:H b=none) (hx:b∉ex):∃ sl,h1.get? b=some { ob with slots:=sl }:=by
 by_cases hb:b∈fs
 ·
  exact u.slot b ob q n hb hx
 ·
  exact ⟨ob.slots,u.keep b ob q n hb hx⟩
theorem Un.trans (a:Un fs ex H H1 h h1) (b:Un fs ex H1 H2 h1 h2):Un fs ex H H2 h h2 where
 keep:=fun c ob q n hc hx=>b.keep c ob (a.keep c ob q n hc hx) (a.free c ob q n hx) hc hx
 slot:=fun c ob q n hc hx=>by
  obtain ⟨sl,e1⟩:=a.slot c ob q n hc hx
  obtain ⟨sl',e2⟩:=b.slot c _ e1 (a.free c ob q n hx) hc hx
  exact ⟨sl',e2⟩
 free:=fun c ob q n hx=>by
  obtain ⟨o',e1⟩:=a.there c ob q hx
  exact b.free c o' e1 (a.free c ob q n hx) hx
 there:=fun c ob q hx=>by
  obtain ⟨o',e1⟩:=a.there c ob q hx
  exact b.there c o' e1 hx
 tups:=fun c xs q=>b.tups c xs (a.tups c xs q)
 frzs:=fun c ob xs q=>b.frzs c ob xs (a.frzs c ob xs q)
 tbls:=fun c ps q=>by
  obtain ⟨m1,e1⟩:=a.tbls c ps q
  obtain ⟨m2,e2⟩:=b.tbls c _ e1
  exact ⟨m1++m2,by rw [e2,Array.append_assoc]⟩
theorem Un.kept (k:∀ b u,h.get? b=some u→h'.get? b=some u):Un fs ex H H h h' :=
 ⟨fun b ob q _ _ _=>k b ob q,fun b ob q _ _ _=>⟨ob.slots,k b ob q⟩,fun _ _ _ n _=>n,fun b ob q _=>⟨ob,k b ob q⟩,fun _ _ q=>q,fun _ _ _ q=>q,fun _ ps q=>⟨#[],by rw [q]; simp⟩⟩
theorem Un.refl:Un fs ex H H h h:=Un.kept fun _ _ q=>q
theorem Un.laid (k:∀ b u,h.get? b=some u→h'.get? b=some u) (hp:h.objs.size≤a) (hn:H a=none):Un fs ex H (upd H a o) h h' where
 keep:=fun b u q _ _ _=>k b u q
 slot:=fun b u q _ _ _=>⟨u.slots,k b u q⟩
 free:=fun b u q n _=>by rw [aI (Nat.ne_of_lt (Nat.lt_of_lt_of_le (Heap.lt_size q) hp))]; exact n
 there:=fun b u q _=>⟨u,k b u q⟩
 tups:=fun b xs q=>by rw [aI (ca q hn)]; exact q
 frzs:=fun b u xs q=>by rw [aI (ca q hn)]; exact q
 tbls:=fun b ps q=>⟨#[],by rw [aI (ca q hn),q]; simp⟩
theorem Un.write (mu:Mut (H x)) (he:e=x∨H e=some (.own x)) (k:∀ b u,b≠e→h.get? b=some u→h'.get? b=some u) (heo:∃ u,h'.get? e=some u):Un fs ex H (upd H x o) h h':=by
 have hx:∀ b,H b=none→b≠x:=fun b n z=>by subst z; rw [n] at mu; exact mu
 have hb:∀ b,H b=none→b≠e:=fun b n z=>by
  subst z
  rcases he with r | r
  ·
   exact hx b n r
  ·
   rw [n] at r; cases r
 have hm:∀ b u,H b=some u→¬ Mut (some u)→b≠x:=fun b u q nm z=>by subst z; rw [q] at mu; exact nm mu
 refine ⟨fun b u q n _ _=>k b u (hb b n) q,fun b u q n _ _=>⟨u.slots,k b u (hb b n) q⟩,fun b u q n _=>by rw [aI (hx b n)]; exact n,fun b u q _=>?_,
  fun b xs q=>by rw [aI (hm b _ q fun z=>z)]; exact q,fun b u xs q=>by rw [aI (hm b _ q fun z=>z)]; exact q,fun b ps q=>⟨#[],by rw [aI (hm b _ q fun z=>z),q]; simp⟩⟩
 by_cases hbe:b=e
 ·
  subst hbe; exact heo
 ·
  exact ⟨u,k b u hbe q⟩
theorem Un.mono (u:Un fs ex H H1 h h1) (hs:∀ b∈fs,b∈fs') (hx:∀ b∈ex,b∈ex'):Un fs' ex' H H1 h h1 :=
 ⟨fun b ob q n hb he=>u.keep b ob q n (fun z=>hb (hs b z)) fun z=>he (hx b z),fun _ _ q n _ he=>u.any q n fun z=>he (hx _ z),fun b ob q n he=>u.free b ob q n fun z=>he (hx b z),fun b ob q he=>u.there b ob q fun z=>he (hx b z),u.tups,u.frzs,u.tbls⟩
end
def trk (h:Heap) (H:Hp):List Addr:=(List.range h.objs.size).filter fun a=>(H a).isSome
def hidT (h:Heap) (H:Hp):Heap:=PySem.W.hideAll h (trk h H)
theorem hidT_size (h:Heap) (H:Hp):(hidT h H).objs.size=h.objs.size:=PySem.W.hideAll_size _ _
theorem hidT_get {h:Heap} {H:Hp} {b:Addr} {o:Obj} (e:h.get? b=some o) (n:H b=none):(hidT h H).get? b=some o :=
 PySem.W.hideAll_get _ e fun hm=>by
  have q:(H b).isSome=true:=(List.mem_filter.mp hm).2
  rw [n] at q; simp at q
theorem of_hidT {h:Heap} {H:Hp} {b:Addr} {o:Obj} (e:(hidT h H).get? b=some o):h.get? b=some o∧H b=none:=by
 have e':h.get? b=some o:=PySem.W.of_hideAll (trk h H) e
 refine ⟨e',?_⟩
 cases q:H b with
 | none=>rfl
 | some x =>
  have hm:b∈trk h H:=List.mem_filter.mpr ⟨List.mem_range.mpr (Heap.lt_size e'),by simp [q]⟩
  have z:(hidT h H).get? b=none:=PySem.W.hideAll_none (trk h H) hm
  rw [z] at e; cases e
def allNews (g h:Heap) (L:Addr):List (Addr×Obj):=(List.range h.objs.size).filterMap fun a=>if a=L∨(g.get? a).isSome=true then none else (h.get? a).map fun o=>(a,o)
def rest (g h:Heap) (L d:Addr):List (Addr×Obj):=(allNews g h L).filter fun p=>decide (p.1≠d)
end L2
namespace L2
open PySem PySem.Spec PyProof.Rows
structure Mod (K:PySem.W.Frag) (mg:Str→Option Value) (base:Heap):Prop where
 kin:K.In base
 glob:base.Ns mainGlobals mg
 blt:∃ mb,base.Ns builtinsNs mb∧∀ x:Str,x≠"__name__"→mb x=bootBuiltins x
 nolimit:base.NoLimit
/-- the context: a def's body (or a comprehension's block) running. base: fixed through the whole law; s₀,H₀: the entry; outer: the frames whose slots others may change (a def's callers); stack: all frames that run;
  ex: iterators that were made ahead of the entry and are walked here (a comprehension's); fn: the names whose cells were made at the entry (a def: all; a comprehension's block: its own); calm: not within an except suite; pn: pins that every state bears; xe: what is wanted of an exception that leaves the code -/
structure Cx where
 prog:Program
 w:World
 K:PySem.W.Frag
 mg:Str→Option Value
 base:Heap
 A:Around
 N:List Str
 s₀:Shared
 H₀:Hp
 env:Env
 outer:List Env
 stack:List Env
 ex:List Addr
 fn:Str→Bool
 calm:Bool
 pn:List (Addr×Obj)
 xe:Value→Shared→Prop
def frs (l:List Env):List Addr:=l.filterMap (·.frame)
abbrev Cx.fs (X:Cx):List Addr:=frs X.outer
def Vis (sc:Scope) (x:Str):Prop:=sc.names.lookup x=some .local∨sc.names.lookup x=some .cell∨sc.names.lookup x=some .free
def Loc (sc:Scope) (x:Str):Prop:=sc.names.lookup x=some .local∨sc.names.lookup x=some .cell
def Look (env:Env) (h:Heap) (m:Str→Option Value) (x:Str) (u:Value):Prop :=
 (env.kindOf x=some .local∧m x=some u)∨((env.kindOf x=some .cell∨env.kindOf x=some .free)∧∃ c,env.cells.lookup x=some c∧h.IsCell c (some u))
structure Cx.Ok (X:Cx):Prop where
 mod:Mod X.K X.mg X.base
 kind:X.env.scope.kind=.function
 glob:X.env.globals=mainGlobals
 blt:X.env.builtins=builtinsNs
 above:X.s₀.heap.objs.size≤X.env.locals
 inj:∀ x y c,X.env.cells.lookup x=some c→X.env.cells.lookup y=some c→x=y
 has:∀ x,(X.env.kindOf x=some .cell∨X.env.kindOf x=some .free)→∃ c,X.env.cells.lookup x=some c
 cab:∀ x c,X.fn x=true→X.env.cells.lookup x=some c→X.s₀.heap.objs.size≤c
 hd:X.calm=true→X.A.handled=none
 frames:X.A.frames=some X.stack
 stk:X.stack=X.outer∨(X.stack=X.env::X.outer∧X.env.frame=some X.env.locals)
 exf:∀ b∈X.ex,b≠X.env.locals∧∀ x c,X.env.cells.lookup x=some c→c≠b
 bs:∀ b o,X.base.get? b=some o→X.s₀.heap.get? b=some o∧X.H₀ b=none
 bsz:X.base.objs.size≤X.s₀.heap.objs.size
 noex:∀ b o,X.base.get? b=some o→b∉X.ex
 exfs:∀ b∈X.ex,b∉X.fs
 funs:X.s₀.heap.FunFrames X.base X.outer
 frf:∀ b∈X.fs,X.H₀ b=none
structure Inv (X:Cx) (pins:List (Addr×Obj)) (σ:List (Option V)) (H:Hp) (s:Shared):Prop where
 ok:X.Ok
 os:s.os=X.s₀.os
 bare:AllBare s.gens
 base:Un X.fs X.ex X.H₀ H X.s₀.heap s.heap
 loc:∃ m,s.heap.Ns X.env.locals m∧∀ (i:Nat) (x:Str) (v:V),X.N[i]?=some x→σ[i]?=some (some v)→Vis X.env.scope x→∃ u,RelV v u∧Look X.env s.heap m x u
 cell:∀ x c,X.env.cells.lookup x=some c→∃ v,s.heap.IsCell c v
 free:H X.env.locals=none
 freeC:∀ x c,X.env.cells.lookup x=some c→H c=none
 pin:∀ p∈X.pn++pins,s.heap.get? p.1=some p.2∧H p.1=none∧p.1≠X.env.locals∧p.1∉X.fs∧∀ v,p.2.data≠.cell v
 hok:HOk X.prog X.w H s.heap
 len:σ.length=X.N.length
section
variable {X:Cx} {pins:List (Addr×Obj)} {σ:List (Option V)} {H H':Hp} {s:Shared} {h':Heap}
theorem Cx.Ok.nofr (ok:X.Ok) {b:Addr} {o:Obj} (e:X.base.get? b=some o):b∉X.fs:=fun hb=>by
 have:=(ok.funs.mem hb).1
 rw [e] at this; cases this
theorem Inv.bs (I:Inv X pins σ H s):∀ b o,X.base.get? b=some o→s.heap.get? b=some o∧H b=none:=fun b o e =>
 ⟨I.base.keep b o (I.ok.bs b o e).1 (I.ok.bs b o e).2 (I.ok.nofr e) (I.ok.noex b o e),I.base.free b o (I.ok.bs b o e).1 (I.ok.bs b o e).2 (I.ok.noex b o e)⟩
theorem Inv.bk (I:Inv X pins σ H s):∀ b o,X.base.get? b=some o→s.heap.get? b=some o:=fun b o e=>(I.bs b o e).1
theorem Inv.mod (I:Inv X pins σ H s):Mod X.K X.mg X.base:=I.ok.mod
theorem Inv.kIn (I:Inv X pins σ H s):X.K.In s.heap:=I.ok.mod.kin.keeps I.bk
theorem Inv.nolimit (I:Inv X pins σ H s):s.heap.NoLimit:=I.ok.mod.nolimit.keeps I.bk
theorem Inv.lt (I:Inv X pins σ H s):X.env.locals < s.heap.objs.size:=let ⟨_,hn,_⟩:=I.loc; hn.lt
theorem Inv.sz (I:Inv X pins σ H s):X.s₀.heap.objs.size≤s.heap.objs.size:=Nat.le_trans I.ok.above (Nat.le_of_lt I.lt)
theorem Inv.nofs (I:Inv X pins σ H s) {a:Addr} (h:s.heap.objs.size≤a):a∉X.fs:=fun hb=>by
 obtain ⟨_,o,ho,_⟩:=I.ok.funs.mem hb
 exact absurd (Nat.lt_of_lt_of_le (Heap.lt_size ho) (Nat.le_trans I.sz h)) (Nat.lt_irrefl _)
theorem Inv.cne (I:Inv X pins σ H s):∀ x c,X.env.cells.lookup x=some c→c≠X.env.locals:=fun x c e z=>by
 obtain ⟨v,o,ho,hd⟩:=I.cell x c e
 obtain ⟨m,⟨o',es,ep,ho',hd',_⟩,_⟩:=I.loc
 rw [z,ho'] at ho; cases ho; rw [hd'] at hd; cases hd
theorem Inv.funs (I:Inv X pins σ H s):s.heap.FunFrames X.base X.outer:=by
 have all:∀ (l:List Env),(∀ b∈frs l,b∈X.fs)→X.s₀.heap.FunFrames X.base l→s.heap.FunFrames X.base l:=by
  intro l
  induction l with
  | nil=>intro _ _; trivial
  | cons env r ih =>
   intro hs hl
   obtain ⟨hk,⟨L,o,hf,hn,ho,hd⟩,hr⟩:=hl
   have hL:L∈X.fs:=hs L (by unfold frs; rw [List.filterMap_cons,hf]; exact List.mem_cons_self)
   obtain ⟨sl,e⟩:=I.base.slot L o ho (I.ok.frf L hL) hL fun z=>I.ok.exfs L z hL
   exact ⟨hk,⟨L,_,hf,hn,e,hd⟩,ih (fun b hb=>hs b (by unfold frs; rw [List.filterMap_cons,hf]; exact List.mem_cons_of_mem _ hb)) hr⟩
 exact all X.outer (fun _ hb=>hb) I.ok.funs
theorem Inv.stack (I:Inv X pins σ H s):s.heap.FunFrames X.base X.stack:=by
 rcases I.ok.stk with e | ⟨e,hf⟩
 ·
  rw [e]; exact I.funs
 ·
  rw [e]
  obtain ⟨m,hn,_⟩:=I.loc
  refine .cons (by rw [I.ok.kind]; decide) hf hn ?_ I.funs
  exact Heap.get?_none_of_le (Nat.le_trans I.ok.bsz I.ok.above)
theorem Inv.stkSub (I:Inv X pins σ H s):∀ b∈frs X.stack,b∈X.env.locals::X.fs:=fun b hb=>by
 rcases I.ok.stk with e | ⟨e,hf⟩
 ·
  rw [e] at hb; exact List.mem_cons_of_mem _ hb
 ·
  rw [e] at hb
  unfold frs at hb
  rw [List.filterMap_cons,hf] at hb
  exact hb
theorem Inv.stkFree (I:Inv X pins σ H s):∀ b∈frs X.stack,H b=none:=fun b hb=>by
 rcases List.mem_cons.mp (I.stkSub b hb) with e | hb
 ·
  rw [e]; exact I.free
 ·
  obtain ⟨_,o,ho,_⟩:=I.ok.funs.mem hb
  exact I.base.free b o ho (I.ok.frf b hb) fun z=>I.ok.exfs b z hb
theorem Inv.step {g':Array GenState} {t':Nat} {d':Drawn} {ch:List Addr} (I:Inv X pins σ H s)
  (hch:∀ b∈ch,(b∈X.ex∨X.s₀.heap.objs.size≤b)∧b≠X.env.locals∧(∀ x c,X.env.cells.lookup x=some c→c≠b)∧∀ p∈X.pn++pins,p.1≠b)
  (keep:∀ b o,b≠X.env.locals→b∉X.fs→b∉ch→s.heap.get? b=some o→H b=none→h'.get? b=some o)
  (slot:∀ b o,b≠X.env.locals→b∈X.fs→b∉ch→s.heap.get? b=some o→H b=none→∃ sl,h'.get? b=some { o with slots:=sl }) (free:∀ b o,b∉ch→s.heap.get? b=some o→H b=none→H' b=none)
  (there:∀ b o,b∉ch→s.heap.get? b=some o→∃ o',h'.get? b=some o')
  (tups:∀ b xs,H b=some (.tup xs)→H' b=some (.tup xs)) (frzs:∀ b o u,H b=some (.frz o u)→H' b=some (.frz o u)) (tbls:∀ b ps,H b=some (.tbl ps)→∃ more,H' b=some (.tbl (ps++more)))
  (ns:∀ m,s.heap.Ns X.env.locals m→h'.Ns X.env.locals m) (hok:HOk X.prog X.w H' h') (hg:AllBare g') :
  Inv X pins σ H' { s with heap:=h',gens:=g',drawn:=d',toks:=t' }:=by
 have neL:∀ b o,X.s₀.heap.get? b=some o→b≠X.env.locals:=fun b o e=>Nat.ne_of_lt (Nat.lt_of_lt_of_le (Heap.lt_size e) I.ok.above)
 have neC:∀ b o,X.s₀.heap.get? b=some o→b∉X.ex→b∉ch:=fun b o e hx hb=>by
  rcases (hch b hb).1 with z | z
  ·
   exact hx z
  ·
   exact absurd (Nat.lt_of_lt_of_le (Heap.lt_size e) z) (Nat.lt_irrefl _)
 have cellK:∀ x c,X.env.cells.lookup x=some c→∀ v,s.heap.IsCell c v→h'.IsCell c v:=fun x c e v ⟨o,ho,hd⟩=>by
  have nch:c∉ch:=fun z=>(hch c z).2.2.1 x c e rfl
  by_cases hc:c∈X.fs
  ·
   obtain ⟨sl,q⟩:=slot c o (I.cne x c e) hc nch ho (I.freeC x c e)
   exact ⟨_,q,hd⟩
  ·
   exact ⟨o,keep c o (I.cne x c e) hc nch ho (I.freeC x c e),hd⟩
 refine ⟨I.ok,I.os,hg,⟨fun b o e n hb hx=>?_,fun b o e n hb hx=>?_,fun b o e n hx=>?_,fun b o e hx=>?_,fun b xs e=>tups b xs (I.base.tups b xs e),fun b o xs e=>frzs b o xs (I.base.frzs b o xs e),fun b ps e=>?_⟩,?_,fun x c e=>?_,?_,fun x c e=>?_,fun p hp=>?_,hok,I.len⟩
 ·
  exact keep b o (neL b o e) hb (neC b o e hx) (I.base.keep b o e n hb hx) (I.base.free b o e n hx)
 ·
  obtain ⟨sl,e1⟩:=I.base.slot b o e n hb hx
  obtain ⟨sl',e2⟩:=slot b _ (neL b o e) hb (neC b o e hx) e1 (I.base.free b o e n hx)
  exact ⟨sl',e2⟩
 ·
  obtain ⟨o',e1⟩:=I.base.there b o e hx
  exact free b o' (neC b o e hx) e1 (I.base.free b o e n hx)
 ·
  obtain ⟨o',e1⟩:=I.base.there b o e hx
  exact there b o' (neC b o e hx) e1
 ·
  obtain ⟨m1,e1⟩:=I.base.tbls b ps e
  obtain ⟨m2,e2⟩:=tbls b _ e1
  exact ⟨m1++m2,by rw [e2,Array.append_assoc]⟩
 ·
  obtain ⟨m,hn,hl⟩:=I.loc
  refine ⟨m,ns m hn,fun i x v e1 e2 e3=>?_⟩
  obtain ⟨u,r,l⟩:=hl i x v e1 e2 e3
  refine ⟨u,r,?_⟩
  rcases l with l | ⟨k,c,e,z⟩
  ·
   exact .inl l
  ·
   exact .inr ⟨k,c,e,cellK x c e _ z⟩
 ·
  obtain ⟨v,z⟩:=I.cell x c e
  exact ⟨v,cellK x c e v z⟩
 ·
  obtain ⟨m,⟨o,_,_,ho,_⟩,_⟩:=I.loc
  exact free _ o (fun z=>(hch _ z).2.1 rfl) ho I.free
 ·
  obtain ⟨v,o,ho,hd⟩:=I.cell x c e
  exact free c o (fun z=>(hch c z).2.2.1 x c e rfl) ho (I.freeC x c e)
 ·
  obtain ⟨e,n,ne,nf,d⟩:=I.pin p hp
  have nch:p.1∉ch:=fun z=>(hch p.1 z).2.2.2 p hp rfl
  exact ⟨keep p.1 p.2 ne nf nch e n,free p.1 p.2 nch e n,ne,nf,d⟩
theorem Inv.un {t':Nat} (I:Inv X pins σ H s) (u:Un X.fs [] H H' s.heap h') (hok:HOk X.prog X.w H' h'):Inv X pins σ H' { s with heap:=h',toks:=t' }:=by
 obtain ⟨m,⟨o,es,ep,ho,r⟩,_⟩:=id I.loc
 obtain ⟨sl,hL⟩:=u.any ho I.free (by simp)
 exact I.step (g':=s.gens) (d':=s.drawn) (ch:=[]) (fun _ z=>nomatch z) (fun b o _ hb _ e n=>u.keep b o e n hb (by simp)) (fun b o _ hb _ e n=>u.slot b o e n hb (by simp)) (fun b o _ e n=>u.free b o e n (by simp)) (fun b o _ e=>u.there b o e (by simp)) u.tups u.frzs u.tbls (fun m' hm=>by
  obtain ⟨o',es',ep',ho',r'⟩:=hm
  rw [ho] at ho'; cases ho'
  exact ⟨_,es',ep',hL,r'⟩) hok I.bare
theorem Inv.call {g':Array GenState} {t':Nat} {d':Drawn} {ch:List Addr} (I:Inv X pins σ H s) (u:Un (frs X.stack) ch H H' s.heap h') (hok:HOk X.prog X.w H' h') (hg:AllBare g')
  (hch:∀ b∈ch,(b∈X.ex∨X.s₀.heap.objs.size≤b)∧b≠X.env.locals∧(∀ x c,X.env.cells.lookup x=some c→c≠b)∧∀ p∈X.pn++pins,p.1≠b) :
  Inv X pins σ H' { s with heap:=h',gens:=g',drawn:=d',toks:=t' }:=by
 obtain ⟨m,⟨o,es,ep,ho,r⟩,_⟩:=id I.loc
 obtain ⟨sl,hL⟩:=u.any ho I.free fun z=>(hch _ z).2.1 rfl
 exact I.step (ch:=ch) hch (fun b o hL hb hc e n=>u.keep b o e n (fun z=>(List.mem_cons.mp (I.stkSub b z)).elim hL hb) hc) (fun b o _ _ hc e n=>u.any e n hc) (fun b o hc e n=>u.free b o e n hc) (fun b o hc e=>u.there b o e hc) u.tups u.frzs u.tbls (fun m' hm=>by
  obtain ⟨o',es',ep',ho',r'⟩:=hm
  rw [ho] at ho'; cases ho'
  exact ⟨_,es',ep',hL,r'⟩) hok hg
theorem Inv.turned {t':Nat} {it:Addr} (I:Inv X pins σ H s) (k:∀ b o,b≠it→s.heap.get? b=some o→h'.get? b=some o) (hn:H it=none) (hL:it≠X.env.locals)
  (h1:it∈X.ex∨X.s₀.heap.objs.size≤it) (h2:∀ x c,X.env.cells.lookup x=some c→c≠it) (h3:∀ p∈X.pn++pins,p.1≠it):Inv X pins σ H { s with heap:=h',toks:=t' }:=by
 have nit:∀ b u,H b=some u→b≠it:=fun b u e z=>by rw [z,hn] at e; cases e
 refine I.step (g':=s.gens) (d':=s.drawn) (ch:=[it]) (fun b hb=>?_) (fun b o _ _ hc e _=>k b o (fun z=>hc (by simp [z])) e) (fun b o _ _ hc e _=>⟨o.slots,k b o (fun z=>hc (by simp [z])) e⟩) (fun _ _ _ _ n=>n)
  (fun b o hc e=>⟨o,k b o (fun z=>hc (by simp [z])) e⟩) (fun _ _ e=>e) (fun _ _ _ e=>e) (fun b ps e=>⟨#[],by rw [e]; simp⟩) (fun m hm=>?_) (fun b u e=>?_) I.bare
 ·
  have e:b=it:=by simpa using hb
  subst e
  exact ⟨h1,hL,h2,h3⟩
 ·
  obtain ⟨o,es,ep,ho,r⟩:=hm
  exact ⟨o,es,ep,k _ o (Ne.symm hL) ho,r⟩
 ·
  refine (I.hok b u e).stay (fun c v hc q=>k c v ?_ q) (fun _ q=>q) fun _ _ q=>q
  rcases hc with z | z
  ·
   rw [z]; exact nit b u e
  ·
   exact nit c _ z
theorem Inv.tok (I:Inv X pins σ H s) (t:Nat):Inv X pins σ H { s with toks:=t }:=I.un (h':=s.heap) (t':=t) Un.refl I.hok
theorem Inv.kept {t':Nat} (I:Inv X pins σ H s) (k:∀ b u,s.heap.get? b=some u→h'.get? b=some u):Inv X pins σ H { s with heap:=h',toks:=t' }:=I.un (Un.kept k) (I.hok.kept k)
theorem Inv.laid {a:Addr} {o:HO} {t':Nat} (I:Inv X pins σ H s) (k:∀ b u,s.heap.get? b=some u→h'.get? b=some u) (hp:s.heap.objs.size≤a) (new:ObjOk X.prog X.w (upd H a o) h' a o) :
  Inv X pins σ (upd H a o) { s with heap:=h',toks:=t' }:=I.un (Un.laid k hp (I.hok.fresh hp)) (I.hok.laid k hp new)
theorem Inv.write {x e:Addr} {o:HO} {t':Nat} (I:Inv X pins σ H s) (mu:Mut (H x)) (he:e=x∨H e=some (.own x)) (k:∀ b u,b≠e→s.heap.get? b=some u→h'.get? b=some u) (heo:∃ u,h'.get? e=some u)
  (new:ObjOk X.prog X.w (upd H x o) h' x o):Inv X pins σ (upd H x o) { s with heap:=h',toks:=t' }:=I.un (Un.write mu he k heo) (I.hok.write mu he k heo new)
theorem Inv.pins_of {pins':List (Addr×Obj)} (I:Inv X pins σ H s) (h:∀ p∈pins',s.heap.get? p.1=some p.2∧H p.1=none∧p.1≠X.env.locals∧p.1∉X.fs∧∀ v,p.2.data≠.cell v):Inv X pins' σ H s :=
 ⟨I.ok,I.os,I.bare,I.base,I.loc,I.cell,I.free,I.freeC,fun p hp=>(List.mem_append.mp hp).elim (fun z=>I.pin p (List.mem_append_left _ z)) (h p),I.hok,I.len⟩
theorem nodup_ix {N:List Str} (hN:N.Nodup) {i j:Nat} {x:Str} (a:N[i]?=some x) (b:N[j]?=some x):i=j:=by
 obtain ⟨h1,e1⟩:=List.getElem?_eq_some_iff.mp a
 obtain ⟨h2,e2⟩:=List.getElem?_eq_some_iff.mp b
 exact (List.getElem_inj hN).mp (e1.trans e2.symm)
theorem store_ok2 {M:Model} {A:Around} {E:Value→Shared→Prop} {i:Nat} {x:Str} {v:V} {u:Value} {Q:Unit→Shared→Prop} (I:Inv X pins σ H s) (hN:X.N.Nodup) (hi:X.N[i]?=some x) (hx:Loc X.env.scope x) (r:RelV v u)
  (h:∀ s',Inv X pins (σ.set i (some v)) H s'→(∃ a,Heap.SameBut a s.heap s'.heap∧(a=X.env.locals∨X.env.cells.lookup x=some a))→Q () s') (hf:X.fn x=true∨X.env.scope.names.lookup x=some .local:=by first | exact .inl rfl | exact .inr rfl | assumption):wpAny M A (storeName X.env x u) Q E s:=by
 obtain ⟨m,hn,hl⟩:=id I.loc
 have hcls:(X.env.scope.kind == .class || (X.env.scope.kind == .module && X.env.locals != X.env.globals))=false:=by rw [I.ok.kind]; rfl
 have hiσ:i < σ.length:=by rw [I.len]; exact (List.getElem?_eq_some_iff.mp hi).1
 have cne:=I.cne
 have tracked:∀ {a:Addr} {h':Heap},(∃ o,s.heap.get? a=some o∧H a=none)→Heap.SameBut a s.heap h'→HOk X.prog X.w H h':=fun {a h'} ha hs b ob e=>by
  obtain ⟨_,_,hfree⟩:=ha
  refine (I.hok b ob e).stay (fun c w' hc q=>(hs.2 c ?_).trans q) (fun _ q=>q) fun _ _ q=>q
  rintro rfl
  rcases hc with rfl | hc
  ·
   rw [hfree] at e; cases e
  ·
   rw [hfree] at hc; cases hc
 rcases hx with hk | hk
 ·
  refine wpAny_storeName_local hk hn (fun h' hn' hs=>?_) hcls
  obtain ⟨oL,_,_,hoL,_⟩:=id hn
  refine h _ ⟨I.ok,I.os,I.bare,⟨fun b o e n hb hx=>?_,fun b o e n hb hx=>?_,I.base.free,fun b o e hx=>?_,I.base.tups,I.base.frzs,I.base.tbls⟩,⟨_,hn',fun j y v' e1 e2 e3=>?_⟩,fun y c e=>?_,I.free,I.freeC,fun p hp=>?_,tracked ⟨oL,hoL,I.free⟩ hs,by simpa using I.len⟩ ⟨_,hs,.inl rfl⟩
  ·
   exact (hs.2 b (Nat.ne_of_lt (Nat.lt_of_lt_of_le (Heap.lt_size e) I.ok.above))).trans (I.base.keep b o e n hb hx)
  ·
   obtain ⟨sl,e1⟩:=I.base.slot b o e n hb hx
   exact ⟨sl,(hs.2 b (Nat.ne_of_lt (Nat.lt_of_lt_of_le (Heap.lt_size e) I.ok.above))).trans e1⟩
  ·
   obtain ⟨o',e1⟩:=I.base.there b o e hx
   exact ⟨o',(hs.2 b (Nat.ne_of_lt (Nat.lt_of_lt_of_le (Heap.lt_size e) I.ok.above))).trans e1⟩
  ·
   by_cases hj:j=i
   ·
    subst hj
    rw [hi] at e1; cases e1
    rw [List.getElem?_set_self hiσ] at e2
    cases e2
    exact ⟨u,r,.inl ⟨hk,by simp⟩⟩
   ·
    rw [List.getElem?_set_ne (Ne.symm hj)] at e2
    obtain ⟨u',r',q⟩:=hl j y v' e1 e2 e3
    refine ⟨u',r',?_⟩
    rcases q with ⟨k,e⟩ | ⟨k,c,e,z⟩
    ·
     refine .inl ⟨k,?_⟩
     have:y≠x:=fun e=>hj (nodup_ix hN e1 (e ▸ hi))
     simp [this,e]
    ·
     exact .inr ⟨k,c,e,z.sameBut hs (cne y c e)⟩
  ·
   obtain ⟨w',z⟩:=I.cell y c e
   exact ⟨w',z.sameBut hs (cne y c e)⟩
  ·
   obtain ⟨e,n,ne,nf,d⟩:=I.pin p hp
   exact ⟨(hs.2 p.1 ne).trans e,n,ne,nf,d⟩
 ·
  have hfn:X.fn x=true:=by
   rcases hf with z | z
   ·
    exact z
   ·
    rw [z] at hk; cases hk
  obtain ⟨c,hc⟩:=I.ok.has x (.inl hk)
  obtain ⟨w',z⟩:=I.cell x c hc
  refine wpAny_storeName_cell I.ok.kind hk hc z (fun h' hc' hs=>?_)
  obtain ⟨oc,hoc,hocd⟩:=id z
  refine h { s with heap:=h' } ⟨I.ok,I.os,I.bare,⟨fun b o e n hb hx=>?_,fun b o e n hb hx=>?_,I.base.free,fun b o e hx=>?_,I.base.tups,I.base.frzs,I.base.tbls⟩,⟨m,hn.sameBut hs (Ne.symm (cne x c hc)),fun j y v' e1 e2 e3=>?_⟩,fun y c' e=>?_,I.free,I.freeC,fun p hp=>?_,tracked ⟨oc,hoc,I.freeC x c hc⟩ hs,by simpa using I.len⟩ ⟨c,hs,.inr hc⟩
  ·
   exact (hs.2 b (Nat.ne_of_lt (Nat.lt_of_lt_of_le (Heap.lt_size e) (I.ok.cab x c hfn hc)))).trans (I.base.keep b o e n hb hx)
  ·
   obtain ⟨sl,e1⟩:=I.base.slot b o e n hb hx
   exact ⟨sl,(hs.2 b (Nat.ne_of_lt (Nat.lt_of_lt_of_le (Heap.lt_size e) (I.ok.cab x c hfn hc)))).trans e1⟩
  ·
   obtain ⟨o',e1⟩:=I.base.there b o e hx
   exact ⟨o',(hs.2 b (Nat.ne_of_lt (Nat.lt_of_lt_of_le (Heap.lt_size e) (I.ok.cab x c hfn hc)))).trans e1⟩
  ·
   by_cases hj:j=i
   ·
    subst hj
    rw [hi] at e1; cases e1
    rw [List.getElem?_set_self hiσ] at e2
    cases e2
    exact ⟨u,r,.inr ⟨.inl hk,c,hc,hc'⟩⟩
   ·
    rw [List.getElem?_set_ne (Ne.symm hj)] at e2
    obtain ⟨u',r',q⟩:=hl j y v' e1 e2 e3
    refine ⟨u',r',?_⟩
    rcases q with q | ⟨k,c',e,z'⟩
    ·
     exact .inl q
    ·
     refine .inr ⟨k,c',e,z'.sameBut hs ?_⟩
     rintro rfl
     exact hj (nodup_ix hN e1 (I.ok.inj _ _ _ e hc ▸ hi))
  ·
   by_cases hcc:c'=c
   ·
    subst hcc; exact ⟨_,hc'⟩
   ·
    obtain ⟨w2,z2⟩:=I.cell y c' e
    exact ⟨w2,z2.sameBut hs hcc⟩
  ·
   obtain ⟨e,n,ne,nf,d⟩:=I.pin p hp
   refine ⟨(hs.2 p.1 ?_).trans e,n,ne,nf,d⟩
   intro q
   rw [q,hoc] at e
   have q':oc=p.2:=Option.some.inj e
   exact d w' (by rw [← q']; exact hocd)
theorem store_ok {M:Model} {A:Around} {E:Value→Shared→Prop} {i:Nat} {x:Str} {v:V} {u:Value} {Q:Unit→Shared→Prop} (I:Inv X pins σ H s) (hN:X.N.Nodup) (hi:X.N[i]?=some x) (hx:Loc X.env.scope x) (r:RelV v u)
  (h:∀ s',Inv X pins (σ.set i (some v)) H s'→Q () s') (hf:X.fn x=true∨X.env.scope.names.lookup x=some .local:=by first | exact .inl rfl | exact .inr rfl | assumption):wpAny M A (storeName X.env x u) Q E s :=
 store_ok2 I hN hi hx r (fun s' I' _=>h s' I') hf
theorem Inv.call' {s':Shared} {ch:List Addr} (I:Inv X pins σ H s) (ho:s'.os=s.os) (u:Un (frs X.stack) ch H H' s.heap s'.heap) (hok:HOk X.prog X.w H' s'.heap) (hg:AllBare s'.gens)
  (hch:∀ b∈ch,(b∈X.ex∨X.s₀.heap.objs.size≤b)∧b≠X.env.locals∧(∀ x c,X.env.cells.lookup x=some c→c≠b)∧∀ p∈X.pn++pins,p.1≠b):Inv X pins σ H' s':=by
 obtain ⟨h',g',d',t',o'⟩:=s'
 have e:o'=s.os:=ho
 subst e
 exact I.call (g':=g') (t':=t') (d':=d') u hok hg hch
end
abbrev XK:=Value→Option Addr→Hp→Prop
abbrev St:=List (Option V)
abbrev VK:=V→Hp→Prop
abbrev TE:=St→Hp→VK→Prop
abbrev TT:=St→Hp→(Bool→Hp→Prop)→Prop
abbrev TA:=St→Hp→(List V→Hp→Prop)→Prop
structure Ends where
 nx:St→Hp→Prop
 rt:VK
 bk:St→Hp→Prop:=fun _ _=>False
 ct:St→Hp→Prop:=fun _ _=>False
abbrev TS:=Ends→St→Hp→Prop
def EP (X:Cx) (pins:List (Addr×Obj)) (σ:St) (Q:VK) (u:Value) (s':Shared):Prop:=∃ v H',Inv X pins σ H' s'∧RelV v u∧Q v H'
def TP (X:Cx) (pins:List (Addr×Obj)) (σ:St) (Q:Bool→Hp→Prop) (b:Bool) (s':Shared):Prop:=∃ H',Inv X pins σ H' s'∧Q b H'
def AP (X:Cx) (pins:List (Addr×Obj)) (σ:St) (Q:List V→Hp→Prop) (us:List Value) (s':Shared):Prop:=∃ vs H',Inv X pins σ H' s'∧Vals vs us∧Q vs H'
def SP (X:Cx) (pins:List (Addr×Obj)) (D:Ends) (f:Flow) (s':Shared):Prop :=
 match f with
 | .next=>∃ σ' H',Inv X pins σ' H' s'∧D.nx σ' H'
 | .brk=>∃ σ' H',Inv X pins σ' H' s'∧D.bk σ' H'
 | .cont=>∃ σ' H',Inv X pins σ' H' s'∧D.ct σ' H'
 | .ret u=>∃ v σ' H',Inv X pins σ' H' s'∧RelV v u∧D.rt v H'
def PE (X:Cx) (e:Expr) (t:TE):Prop :=
 ∀ (pins:List (Addr×Obj)) (s:Shared) (σ:St) (H:Hp) (Q:VK),Inv X pins σ H s→t σ H Q→wpAny (model X.prog X.w) X.A (eval e X.env) (EP X pins σ Q) X.xe s
def PT (X:Cx) (e:Expr) (t:TT):Prop :=
 ∀ (pins:List (Addr×Obj)) (s:Shared) (σ:St) (H:Hp) (Q:Bool→Hp→Prop),Inv X pins σ H s→t σ H Q→wpAny (model X.prog X.w) X.A (isTrue e X.env (eval e X.env)) (TP X pins σ Q) X.xe s
def PW (X:Cx) (e:Expr) (t:TT):Prop :=
 ∀ (whole:Sem Value) (pins:List (Addr×Obj)) (s:Shared) (σ:St) (H:Hp) (Q:Bool→Hp→Prop),Inv X pins σ H s→t σ H Q→wpAny (model X.prog X.w) X.A (isTrue e X.env whole) (TP X pins σ Q) X.xe s
theorem PW.pt {X:Cx} {e:Expr} {t:TT} (h:PW X e t):PT X e t:=h _
def PA (X:Cx) (es:List Expr) (t:TA):Prop :=
 ∀ (pos:Pos) (pins:List (Addr×Obj)) (s:Shared) (σ:St) (H:Hp) (Q:List V→Hp→Prop),Inv X pins σ H s→t σ H Q→wpAny (model X.prog X.w) X.A (spliced (backTo pos (starEach es X.env))) (AP X pins σ Q) X.xe s
def PS (X:Cx) (st:Stmt) (t:TS):Prop :=
 ∀ (pins:List (Addr×Obj)) (s:Shared) (σ:St) (H:Hp) (D:Ends),Inv X pins σ H s→t D σ H→wpAny (model X.prog X.w) X.A (exec st X.env) (SP X pins D) X.xe s
def PSs (X:Cx) (st:List Stmt) (t:TS):Prop :=
 ∀ (pins:List (Addr×Obj)) (s:Shared) (σ:St) (H:Hp) (D:Ends),Inv X pins σ H s→t D σ H→wpAny (model X.prog X.w) X.A (execs st X.env) (SP X pins D) X.xe s
theorem thn {α:Type} {t:Sem α} {Q Q':α→Shared→Prop} {M:Model} {A:Around} {E:Value→Shared→Prop} {s:Shared} (h:wpAny M A t Q E s) (hQ:∀ a s,Q a s→Q' a s):wpAny M A t Q' E s:=wpAny_mono h hQ fun _ _ x=>x
end L2
namespace L2
open PySem PySem.Spec PyProof.Rows
section
variable {X:Cx}
def tVar (i:Nat):TE:=fun σ H Q=>∃ v,σ[i]?=some (some v)∧Q v H
def tC (v:V):TE:=fun _ H Q=>Q v H
theorem dR {i:Nat} {x:Str} {pos:Pos} (hN:X.N[i]?=some x) (hv:Vis X.env.scope x) (hd:(x == ("__debug__" : Str))=false:=by decide) (hcd:(x == ("__classdict__" : Str))=false:=by decide):PE X (.Name x pos) (tVar i):=by
 intro pins s σ H Q I h
 obtain ⟨v,e,h⟩:=h
 obtain ⟨m,hn,hl⟩:=I.loc
 obtain ⟨u,r,l⟩:=hl i x v hN e hv
 have fin:EP X pins σ Q u s:=⟨v,H,I,r,h⟩
 rcases l with ⟨hk,hm⟩ | ⟨hk,c,hc,hcell⟩
 ·
  exact wpAny_Name (wpAny_loadName_local I.ok.kind hk hn hm fin) hd
 ·
  rcases hk with hk | hk
  ·
   exact wpAny_Name (wpAny_loadName_cell I.ok.kind hk hc hcell fin) hd
  ·
   exact wpAny_Name (wpAny_loadName_free I.ok.kind hk hc hcell fin hcd) hd
theorem pe_int {i j pos}:PE X (.Constant (.int i) j pos) (tC (.int i)):=fun _ _ _ H _ I h=>wpAny_Constant_int ⟨.int i,H,I.tok _,⟨_,rfl⟩,h⟩
theorem pe_bl {b j pos}:PE X (.Constant (.bool b) j pos) (tC (.bl b)):=fun _ _ _ H _ I h=>Constant_bool ⟨.bl b,H,I,rfl,h⟩
theorem pe_non {j pos}:PE X (.Constant .none j pos) (tC .non):=fun _ _ _ H _ I h=>Constant_none ⟨.non,H,I,rfl,h⟩
theorem pe_str {x j pos}:PE X (.Constant (.str x) j pos) (tC (.str x)):=fun _ _ _ H _ I h=>Calls.Constant_str ⟨.str x,H,I.tok _,⟨_,rfl⟩,h⟩
def Gl (X:Cx) (x:Str):Prop:=X.env.kindOf x=some .globalImplicit
theorem ld_glob {E:Value→Shared→Prop} {pins:List (Addr×Obj)} {s:Shared} {σ:St} {H:Hp} {x:Str} {u:Value} {pos:Pos} {Q:Value→Shared→Prop} (I:Inv X pins σ H s) (hg:Gl X x) (hm:X.mg x=some u) (h:Q u s)
  (hd:(x == ("__debug__" : Str))=false:=by decide):wpAny (model X.prog X.w) X.A (eval (.Name x pos) X.env) Q E s :=
 Calls.Name_function_global I.ok.kind hg (Calls.loadGlobal_global (by rw [I.ok.glob]; exact I.mod.glob.keeps I.bk) hm h) hd
theorem ld_blt {E:Value→Shared→Prop} {pins:List (Addr×Obj)} {s:Shared} {σ:St} {H:Hp} {x:Str} {u:Value} {pos:Pos} {Q:Value→Shared→Prop} (I:Inv X pins σ H s) (hg:Gl X x) (hm:X.mg x=none) (hv:bootBuiltins x=some u) (h:Q u s)
  (hn:x≠"__name__":=by decide) (hd:(x == ("__debug__" : Str))=false:=by decide):wpAny (model X.prog X.w) X.A (eval (.Name x pos) X.env) Q E s:=by
 obtain ⟨mb,h1,h2⟩:=I.mod.blt
 exact Calls.Name_function_global I.ok.kind hg (Calls.loadGlobal_builtin (by rw [I.ok.glob]; exact I.mod.glob.keeps I.bk) hm (by rw [I.ok.blt]; exact h1.keeps I.bk) ((h2 x hn).trans hv) h) hd
theorem pe_glob {x:Str} {v:V} {u:Value} {pos:Pos} (hg:Gl X x) (hm:X.mg x=some u) (r:RelV v u) (hd:(x == ("__debug__" : Str))=false:=by decide):PE X (.Name x pos) (tC v) :=
 fun _ _ _ H _ I h=>ld_glob I hg hm ⟨v,H,I,r,h⟩ hd
theorem pe_bltn {x:Str} {v:V} {u:Value} {pos:Pos} (hg:Gl X x) (hm:X.mg x=none) (hv:bootBuiltins x=some u) (r:RelV v u) (hn:x≠"__name__":=by decide) (hd:(x == ("__debug__" : Str))=false:=by decide):PE X (.Name x pos) (tC v) :=
 fun _ _ _ H _ I h=>ld_blt I hg hm hv ⟨v,H,I,r,h⟩ hn hd
variable {a b:Expr} {ta tb:TE} {pos:Pos}
def tB (t:TE):TT:=fun σ H Q=>t σ H fun x H1=>∃ c,x=.bl c∧Q c H1
variable {tA tB':TT} {rest:List Expr}
end
end L2
namespace L2
open PySem PySem.Spec PyProof.Rows
def SqL (K:PySem.W.Frag) (H:Hp) (a:Addr) (xs:List V):Prop :=
 Rd H a (.lst xs) ∨
  ∃ (o:Obj) (its:Array Value) (n:Nat),K.lookup a=some o∧o.cls=.type "list"∧o.dict=none∧o.data=.seq its n∧its.size≤sizeLine∧Vals xs its.toList
def SqT (K:PySem.W.Frag) (H:Hp) (a:Addr) (xs:List V):Prop :=
 Rd H a (.tup xs) ∨
  ∃ (o:Obj) (its:Array Value) (n:Nat),K.lookup a=some o∧o.cls=.type "tuple"∧o.data=.seq its n∧its.size≤sizeLine∧Vals xs its.toList
def absV:Value→Option V
 | .none=>some .non
 | .bool b=>some (.bl b)
 | .int i _=>some (.int i)
 | .str x _=>some (.str x)
 | .bytes b _=>some (.byt b)
 | .float b _=>some (.flt b)
 | .ref a=>some (.ref a)
 | .type n=>some (.ty n)
 | _=>none
theorem RelV.abs {x:V} {u:Value} (r:RelV x u):absV u=some x:=by
 cases x with
 | non=>cases r; rfl
 | bl _=>cases r; rfl
 | int _=>obtain ⟨t,rfl⟩:=r; rfl
 | str _=>obtain ⟨t,rfl⟩:=r; rfl
 | byt _=>obtain ⟨t,rfl⟩:=r; rfl
 | flt _=>obtain ⟨t,rfl⟩:=r; rfl
 | ref _=>cases r; rfl
 | ty _=>cases r; rfl
theorem RelV.inj {x y:V} {u:Value} (r:RelV x u) (q:RelV y u):x=y:=Option.some.inj (r.abs.symm.trans q.abs)
theorem Vals.inj:∀ {xs ys:List V} {us:List Value},Vals xs us→Vals ys us→xs=ys
 | _,_,_,.nil,.nil=>rfl
 | _,_,_,.cons r t,.cons r' t'=>by rw [r.inj r',Vals.inj t t']
section
variable {X:Cx} {pins:List (Addr×Obj)} {σ:St} {H:Hp} {s:Shared} {a:Addr} {xs ys:List V}
theorem SqL.of {K:PySem.W.Frag} (h:H a=some (.lst xs)):SqL K H a xs:=.inl (.inl h)
theorem SqT.of {K:PySem.W.Frag} (h:H a=some (.tup xs)):SqT K H a xs:=.inl (.inl h)
theorem Inv.list (I:Inv X pins σ H s) (h:SqL X.K H a xs):∃ its:List Value,Vals xs its∧PlainL s.heap a its.toArray∧xs.length≤sizeLine:=by
 rcases h with h | ⟨o,its,n,hk,hc,hd,hs,hz,r⟩
 ·
  obtain ⟨z,its,n,r,e⟩:=h.ok I.hok
  exact ⟨its,r,⟨_,n,e,rfl,rfl,rfl⟩,z⟩
 ·
  refine ⟨its.toList,r,⟨o,n,I.kIn a o hk,hc,hd,by simpa using hs⟩,?_⟩
  have e:=r.length
  simp only [Array.length_toList] at e
  omega
theorem Inv.tuple (I:Inv X pins σ H s) (h:SqT X.K H a xs):∃ its:List Value,Vals xs its∧IsTup s.heap a its.toArray∧xs.length≤sizeLine:=by
 rcases h with h | ⟨o,its,n,hk,hc,hs,hz,r⟩
 ·
  obtain ⟨z,its,r,p⟩:=h.ok I.hok
  exact ⟨its,r,p,z⟩
 ·
  refine ⟨its.toList,r,⟨o,I.kIn a o hk,hc,n,by simpa using hs⟩,?_⟩
  have e:=r.length
  simp only [Array.length_toList] at e
  omega
theorem Inv.list_inj (I:Inv X pins σ H s) (h:SqL X.K H a xs) (h':SqL X.K H a ys):xs=ys:=by
 obtain ⟨its,r,⟨o,n,e,_,_,d⟩,_⟩:=I.list h
 obtain ⟨its',r',⟨o',n',e',_,_,d'⟩,_⟩:=I.list h'
 rw [e] at e'; cases e'
 rw [d] at d'
 injection d' with d1 _
 have:its=its':=by simpa using congrArg Array.toList d1
 subst this
 exact r.inj r'
theorem Inv.tuple_inj (I:Inv X pins σ H s) (h:SqT X.K H a xs) (h':SqT X.K H a ys):xs=ys:=by
 obtain ⟨its,r,⟨o,e,_,n,d⟩,_⟩:=I.tuple h
 obtain ⟨its',r',⟨o',e',_,n',d'⟩,_⟩:=I.tuple h'
 rw [e] at e'; cases e'
 rw [d] at d'
 injection d' with d1 _
 have:its=its':=by simpa using congrArg Array.toList d1
 subst this
 exact r.inj r'
end
abbrev Cx.wish (X:Cx) (E:Value→Shared→Prop):Cx:={ X with xe:=E }
abbrev Cx.nox (X:Cx):Cx:=X.wish fun _ _=>False
theorem Cx.Ok.wish {X:Cx} (ok:X.Ok) (E:Value→Shared→Prop):(X.wish E).Ok :=
 ⟨ok.mod,ok.kind,ok.glob,ok.blt,ok.above,ok.inj,ok.has,ok.cab,ok.hd,ok.frames,ok.stk,ok.exf,ok.bs,ok.bsz,ok.noex,ok.exfs,ok.funs,ok.frf⟩
theorem Cx.Ok.unwish {X:Cx} {E:Value→Shared→Prop} (ok:(X.wish E).Ok):X.Ok :=
 ⟨ok.mod,ok.kind,ok.glob,ok.blt,ok.above,ok.inj,ok.has,ok.cab,ok.hd,ok.frames,ok.stk,ok.exf,ok.bs,ok.bsz,ok.noex,ok.exfs,ok.funs,ok.frf⟩
section
variable {X:Cx} {pins:List (Addr×Obj)} {σ:St} {H:Hp} {s:Shared} {E:Value→Shared→Prop}
theorem Inv.wish (I:Inv X pins σ H s) (E:Value→Shared→Prop):Inv (X.wish E) pins σ H s:=⟨I.ok.wish E,I.os,I.bare,I.base,I.loc,I.cell,I.free,I.freeC,I.pin,I.hok,I.len⟩
theorem Inv.unwish (I:Inv (X.wish E) pins σ H s):Inv X pins σ H s:=⟨I.ok.unwish,I.os,I.bare,I.base,I.loc,I.cell,I.free,I.freeC,I.pin,I.hok,I.len⟩
theorem SP.unwish {D:Ends} {f:Flow} {s':Shared} (h:SP (X.wish E) pins D f s'):SP X pins D f s':=by
 cases f with
 | next=>obtain ⟨σ',H',I,q⟩:=h; exact ⟨σ',H',I.unwish,q⟩
 | brk=>obtain ⟨σ',H',I,q⟩:=h; exact ⟨σ',H',I.unwish,q⟩
 | cont=>obtain ⟨σ',H',I,q⟩:=h; exact ⟨σ',H',I.unwish,q⟩
 | ret u=>obtain ⟨v,σ',H',I,r,q⟩:=h; exact ⟨v,σ',H',I.unwish,r,q⟩
theorem PE.nox {e:Expr} {t:TE} (h:PE X.nox e t):PE X e t:=fun pins s σ H Q I hw =>
 wpAny_mono (h pins s σ H Q (I.wish _) hw) (fun _ _ ⟨v,H',I',r,q⟩=>⟨v,H',I'.unwish,r,q⟩) fun _ _ z=>False.elim z
theorem PT.nox {e:Expr} {t:TT} (h:PT X.nox e t):PT X e t:=fun pins s σ H Q I hw =>
 wpAny_mono (h pins s σ H Q (I.wish _) hw) (fun _ _ ⟨H',I',q⟩=>⟨H',I'.unwish,q⟩) fun _ _ z=>False.elim z
theorem PSs.nox {st:List Stmt} {t:TS} (h:PSs X.nox st t):PSs X st t:=fun pins s σ H D I hw =>
 wpAny_mono (h pins s σ H D (I.wish _) hw) (fun _ _ q=>q.unwish) fun _ _ z=>False.elim z
end
section
variable {X:Cx} {st:Stmt} {rest:List Stmt} {t u:TS} {e:Expr} {te:TE} {pos:Pos}
theorem Inv.quiet {pins:List (Addr×Obj)} {σ:St} {H:Hp} {s:Shared} (I:Inv X pins σ H s):interactive X.env=false:=by simp [interactive,I.ok.kind]
end
abbrev TG:=V→St→Hp→(St→Hp→Prop)→Prop
abbrev TGs:=List V→St→Hp→(St→Hp→Prop)→Prop
def PG (X:Cx) (target:Expr) (t:TG):Prop :=
 ∀ (pins:List (Addr×Obj)) (s:Shared) (σ:St) (H:Hp) (v:V) (u:Value) (Q:St→Hp→Prop),Inv X pins σ H s→RelV v u→t v σ H Q →
  wpAny (model X.prog X.w) X.A (assign target X.env u) (fun _ s'=>∃ σ' H',Inv X pins σ' H' s'∧Q σ' H') X.xe s
def PGs (X:Cx) (ts:List Expr) (t:TGs):Prop :=
 ∀ (pins:List (Addr×Obj)) (s:Shared) (σ:St) (H:Hp) (vs:List V) (us:List Value) (Q:St→Hp→Prop),Inv X pins σ H s→Vals vs us→t vs σ H Q →
  wpAny (model X.prog X.w) X.A (assignInOrder ((assignEach ts X.env).map (·.2)) us) (fun _ s'=>∃ σ' H',Inv X pins σ' H' s'∧Q σ' H') X.xe s
abbrev TSet:=V→V→V→Hp→(Hp→Prop)→Prop
def PSet (X:Cx) (t:TSet):Prop :=
 ∀ (pins:List (Addr×Obj)) (s:Shared) (σ:St) (H:Hp) (o i v:V) (ov iv u:Value) (Q:Hp→Prop),Inv X pins σ H s→RelV o ov→RelV i iv→RelV v u→t o i v H Q →
  wpAny (model X.prog X.w) X.A (setItem ov iv u) (fun _ s'=>∃ H',Inv X pins σ H' s'∧Q H') X.xe s
abbrev TIp:=V→V→Hp→VK→Prop
def PIp (X:Cx) (op:Operator) (t:TIp):Prop :=
 ∀ (pins:List (Addr×Obj)) (s:Shared) (σ:St) (H:Hp) (x y:V) (v u:Value) (Q:VK),Inv X pins σ H s→RelV x v→RelV y u→t x y H Q →
  wpAny (model X.prog X.w) X.A (inplaceOp op v u) (EP X pins σ Q) X.xe s
section
variable {X:Cx} {pos:Pos}
def gName (i:Nat):TG:=fun v σ H Q=>Q (σ.set i (some v)) H
theorem pg_name {i:Nat} {x:Str} (hN:X.N.Nodup) (hi:X.N[i]?=some x) (hx:Loc X.env.scope x) (hf:X.fn x=true∨X.env.scope.names.lookup x=some .local:=by first | exact .inl rfl | exact .inr rfl | assumption):PG X (.Name x pos) (gName i):=by
 intro pins s σ H v u Q I r h
 exact wpAny_assign_Name (store_ok I hN hi hx r (fun s' I'=>⟨_,H,I',h⟩) hf)
def gNil:TGs:=fun vs σ H Q=>vs=[]∧Q σ H
def gCons (t:TG) (u:TGs):TGs:=fun vs σ H Q=>∃ v r,vs=v::r∧t v σ H fun σ' H'=>u r σ' H' Q
theorem pgs_nil:PGs X [] gNil:=by
 intro pins s σ H vs us Q I r h
 obtain ⟨e,h⟩:=h
 subst e
 cases r
 exact assignInOrder_nil ⟨σ,H,I,h⟩
theorem pgs_cons {e:Expr} {es:List Expr} {t:TG} {u:TGs} (h1:PG X e t) (h2:PGs X es u)
  (hs:(assignEach (e::es) X.env).map (·.2)=assign e X.env::(assignEach es X.env).map (·.2):=by rfl):PGs X (e::es) (gCons t u):=by
 intro pins s σ H vs us Q I r h
 obtain ⟨v,vr,e1,h⟩:=h
 subst e1
 cases r with
 | cons r rr =>
  rw [hs]
  refine assignInOrder_cons (thn (h1 pins s σ H _ _ _ I r h) fun _ s1 ⟨σ1,H1,I1,q1⟩=>?_)
  exact h2 pins s1 σ1 H1 _ _ Q I1 rr q1
def gTup (K:PySem.W.Frag) (n:Nat) (t:TGs):TG:=fun v σ H Q=>∃ a xs,v=.ref a∧SqT K H a xs∧xs.length=n∧t xs σ H Q
theorem pg_tup {es:List Expr} {k:Nat} {t:TGs} {n:Nat} (hc:X.calm=true) (h:PGs X es t)
  (hn:(assignEach es X.env).length=n:=by rfl) (hst:(assignEach es X.env).findIdx? (·.1)=none:=by rfl):PG X (.Tuple es k pos) (gTup X.K n t):=by
 intro pins s σ H v u Q I r hw
 obtain ⟨a,xs,e1,hq,hl,hw⟩:=hw
 subst e1
 cases r
 obtain ⟨its,rv,ht,hz⟩:=I.tuple hq
 refine assign_Tuple_tuple (I.ok.hd hc) ht (by simp [hn,← hl,rv.length]) hst fun h' hx=>?_
 have I1:Inv X pins σ H { s with heap:=h' }:=I.kept (t':=s.toks) fun b o e=>hx b o (Nat.ne_of_lt (Heap.lt_size e)) e
 exact h pins _ σ H xs _ Q I1 (by simpa using rv) hw
def gSub (to ti:TE) (t:TSet):TG:=fun v σ H Q=>to σ H fun o H1=>ti σ H1 fun i H2=>t o i v H2 fun H3=>Q σ H3
theorem pg_sub {o i:Expr} {to ti:TE} {t:TSet} (ho:PE X o to) (hi:PE X i ti) (hs:PSet X t)
  (ha:∀ v,assign (.Subscript o i pos) X.env v=(do
   let ov ← holding [v] (eval o X.env)
   let iv ← holding [v,ov] (eval i X.env)
   standAt pos
   holding [v,ov,iv] (setItem ov iv v)
   release [v,ov,iv] []):=by intro _; rfl):PG X (.Subscript o i pos) (gSub to ti t):=by
 intro pins s σ H v u Q I r h
 rw [ha]
 refine wpAny_bind (wpAny_holding (thn (ho pins s σ H _ I h) fun ov s1 ⟨x,H1,I1,r1,q1⟩=>?_))
 refine wpAny_bind (wpAny_holding (thn (hi pins s1 σ H1 _ I1 q1) fun iv s2 ⟨y,H2,I2,r2,q2⟩=>?_))
 refine wpAny_bind (wpAny_standAt (wpAny_bind (wpAny_holding (thn (hs pins s2 σ H2 x y v ov iv u _ I2 r1 r2 r q2) fun _ s3 ⟨H3,I3,q3⟩=>?_))))
 exact wpAny_release ⟨σ,H3,I3,q3⟩
def tAsg (te:TE) (g:TG):TS:=fun D σ H=>te σ H fun x H1=>g x σ H1 D.nx
theorem ps_asg {tg e:Expr} {te:TE} {g:TG} (he:PE X e te) (hg:PG X tg g) (hs:swapsWithSole [tg] e pos.line X.env=pure false:=by rfl) (hw:swappedStores [tg] e X.env=pure none:=by rfl)
  (h1:(assignEach [tg] X.env).map (·.2)=[assign tg X.env]:=by rfl):PS X (.Assign [tg] e pos) (tAsg te g):=by
 intro pins s σ H D I h
 refine wpAny_Assign_stores (thn (he pins s σ H _ I h) fun v s1 ⟨x,H1,I1,r1,q1⟩=>?_) hs hw
 rw [h1]
 exact thn (hg pins s1 σ H1 x v _ I1 r1 q1) fun _ s2 q=>q
def tPar (i j:Nat) (ta:TA):TS:=fun D σ H=>ta σ H fun vs H1=>∃ v w,vs=[v,w]∧D.nx ((σ.set i (some v)).set j (some w)) H1
theorem ps_par {i j:Nat} {x y:Str} {a b:Expr} {ta:TA} {px py pt:Pos} {kt k2 pt2} (hc:X.calm=true) (hN:X.N.Nodup) (hi:X.N[i]?=some x) (hj:X.N[j]?=some y) (hij:i≠j)
  (hx:X.env.scope.names.lookup x=some .local) (hy:X.env.scope.names.lookup y=some .local) (ha:PA X [a,b] ta)
  (hw:swappedStores [.Tuple [.Name x px,.Name y py] kt pt] (.Tuple [a,b] k2 pt2) X.env=pure (some [x,y]))
  (hs:swapsWithSole [.Tuple [.Name x px,.Name y py] kt pt] (.Tuple [a,b] k2 pt2) pos.line X.env=pure false:=by rfl) :
  PS X (.Assign [.Tuple [.Name x px,.Name y py] kt pt] (.Tuple [a,b] k2 pt2) pos) (tPar i j ta):=by
 intro pins s σ H D I h
 rw [exec_Assign_arm]
 refine wpAny_bind (wpAny_standAt ?_)
 rw [hs]
 refine wpAny_bind (wpAny_pure ?_)
 rw [if_neg (by decide)]
 refine wpAny_bind (Tuple_ (thn (ha _ pins s σ H _ I h) fun us s1 ⟨vs,H1,I1,r1,q1⟩=>?_))
 obtain ⟨v,w,e1,q1⟩:=q1
 subst e1
 obtain ⟨u1,u2,rfl,rv,rw'⟩:∃ u1 u2,us=[u1,u2]∧RelV v u1∧RelV w u2:=by
  cases r1 with
  | cons p q =>
   cases q with
   | cons p' q' =>
    cases q'
    exact ⟨_,_,rfl,p,p'⟩
 refine wpAny_newObj_type ?_ (by show 2≤sizeLine; decide)
 have I2:Inv X pins σ H1 { s1 with heap:=s1.heap.push { cls:=.type "tuple",data:=.seq [u1,u2].toArray } }:=I1.kept (t':=s1.toks) fun b o e=>Heap.get?_push_of_some _ e
 rw [hw]
 refine wpAny_bind (wpAny_pure ?_)
 show wpAny (model X.prog X.w) X.A (do rule "assign.swapped-stores"; let items ← unpackItems (.ref s1.heap.objs.size) 2 none; assignInOrder [fun v=>bindName X.env y v,fun v=>bindName X.env x v] items.reverse; pure Flow.next) _ _ _
 refine wpAny_bind (wpAny_rule (wpAny_bind (unpackItems_tuple (items:=#[u1,u2]) (I.ok.hd hc) (IsTup.new s1.heap _) fun h' hx'=>?_)))
 have I3:=I2.kept (h':=h') (t':=s1.toks) fun b o e=>hx' b o (Nat.ne_of_lt (Heap.lt_size e)) e
 show wpAny _ _ (assignInOrder [fun v=>bindName X.env y v,fun v=>bindName X.env x v] [u2,u1] >>= fun _=>pure Flow.next) _ _ _
 refine wpAny_bind (assignInOrder_cons (wpAny_bindName (store_ok I3 hN hj (.inl hy) rw' (fun s2 I4=>?_) (.inr hy))))
 refine assignInOrder_cons (wpAny_bindName (store_ok I4 hN hi (.inl hx) rv (fun s3 I5=>assignInOrder_nil (wpAny_pure ?_)) (.inr hx)))
 rw [List.set_comm _ _ (Ne.symm hij)] at I5
 exact ⟨_,H1,I5,q1⟩
def tAug (i:Nat) (te:TE) (ti:TIp):TS:=fun D σ H=>∃ x,σ[i]?=some (some x)∧te σ H fun y H1=>ti x y H1 fun z H2=>D.nx (σ.set i (some z)) H2
theorem ps_aug {i:Nat} {x:Str} {e:Expr} {te:TE} {op:Operator} {ti:TIp} {pos':Pos} (hN:X.N.Nodup) (hi:X.N[i]?=some x) (hx:Loc X.env.scope x) (he:PE X e te) (ho:PIp X op ti) (hf:X.fn x=true∨X.env.scope.names.lookup x=some .local:=by first | exact .inl rfl | exact .inr rfl | assumption) :
  PS X (.AugAssign (.Name x pos') op e pos) (tAug i te ti):=by
 intro pins s σ H D I h
 obtain ⟨v,e1,h⟩:=h
 obtain ⟨m,hn,hl⟩:=I.loc
 have vis:Vis X.env.scope x:=by rcases hx with k | k; exact .inl k; exact .inr (.inl k)
 obtain ⟨u,r,l⟩:=hl i x v hi e1 vis
 refine wpAny_AugAssign_Name ?_
 have go:wpAny (model X.prog X.w) X.A (eval e X.env) (fun w s₂=>wpAny (model X.prog X.w) X.A (inplaceOp op u w) (fun r s₃=>wpAny (model X.prog X.w) X.A (storeName X.env x r) (fun _=>SP X pins D .next) X.xe s₃) X.xe s₂) X.xe s:=by
  refine thn (he pins s σ H _ I h) fun w s1 ⟨y,H1,I1,r1,q1⟩=>?_
  refine thn (ho pins s1 σ H1 v y u w _ I1 r r1 q1) fun z s2 ⟨zv,H2,I2,r2,q2⟩=>?_
  exact store_ok I2 hN hi hx r2 (fun s3 I3=>⟨_,H2,I3,q2⟩) hf
 rcases l with ⟨hk,hm⟩ | ⟨hk,c,hc,hcell⟩
 ·
  exact wpAny_loadName_local I.ok.kind hk hn hm go
 ·
  rcases hk with hk | hk
  ·
   exact wpAny_loadName_cell I.ok.kind hk hc hcell go
  ·
   rcases hx with k | k
   ·
    have:X.env.scope.names.lookup x=some .free:=hk
    rw [k] at this; cases this
   ·
    have:X.env.scope.names.lookup x=some .free:=hk
    rw [k] at this; cases this
def ipI (f:Int→Int→Int):TIp:=fun x y H Q=>∃ i j,x=.int i∧y=.int j∧Q (.int (f i j)) H
theorem ip_add:PIp X .Add (ipI fun i j=>i+j):=by
 intro pins s σ H x y v u Q I r1 r2 h
 obtain ⟨i,j,e1,e2,q⟩:=h
 subst e1; subst e2
 obtain ⟨t,rfl⟩:=r1
 obtain ⟨t',rfl⟩:=r2
 exact iadd_int ⟨.int _,H,I.tok _,⟨_,rfl⟩,q⟩
end
section
variable {X:Cx} {pos:Pos}
def tWhile (c:TT) (tb:TS):TS:=fun D σ H=>∃ W:Nat→St→Hp→Prop,(∃ m,W m σ H)∧∀ m σ H,W m σ H →
 c σ H fun b H1=>if b=true then ∃ N:St→Hp→Prop,(∀ σ' H',N σ' H'→∃ m',m' < m∧W m' σ' H')∧tb { D with nx:=N,ct:=N,bk:=D.nx } σ H1 else D.nx σ H1
theorem ps_while {c:Expr} {body:List Stmt} {tc:TT} {tb:TS} (hp:PassesOwn (model X.prog X.w) X.A X.env X.xe) (hc:PT X c tc) (hb:PSs X body tb):PS X (.While c body [] pos) (tWhile tc tb):=by
 intro pins s σ H D I h
 obtain ⟨W,⟨m0,w0⟩,turn⟩:=h
 refine wpAny_While (codeAny_whileLoop (fun n s'=>∃ σ' H',Inv X pins σ' H' s'∧W n σ' H') ?_ m0 ⟨σ,H,I,w0⟩)
 rintro n s1 ⟨σ1,H1,I1,w1⟩
 refine wpAny_passesOwn hp (thn (hc pins s1 σ1 H1 _ I1 (turn n σ1 H1 w1)) fun b s2 ⟨H2,I2,q2⟩=>?_)
 cases b with
 | true =>
  obtain ⟨N,hN,q2⟩:=q2
  rw [if_pos rfl]
  refine wpAny_passesOwn hp (thn (hb pins s2 σ1 H2 _ I2 q2) fun f s3 q3=>?_)
  cases f with
  | next =>
   obtain ⟨σ3,H3,I3,n3⟩:=q3
   obtain ⟨m',hm,w3⟩:=hN σ3 H3 n3
   exact ⟨m',hm,σ3,H3,I3,w3⟩
  | cont =>
   obtain ⟨σ3,H3,I3,n3⟩:=q3
   obtain ⟨m',hm,w3⟩:=hN σ3 H3 n3
   exact ⟨m',hm,σ3,H3,I3,w3⟩
  | brk=>exact q3
  | ret v=>exact q3
 | false =>
  rw [if_neg Bool.false_ne_true]
  exact wpAny_execs_nil ⟨σ1,H2,I2,q2⟩
end
structure It where
 go:Nat→Hp→Prop
 yld:Nat→Hp→V→Hp→Prop
 stop:Nat→Hp→Prop
def FpOk (X:Cx) (pins:List (Addr×Obj)) (H:Hp) (b:Addr):Prop :=
 H b=none∧b≠X.env.locals∧b∉X.fs∧(b∈X.ex∨X.s₀.heap.objs.size≤b)∧(∀ x c,X.env.cells.lookup x=some c→c≠b)∧∀ p∈X.pn++pins,p.1≠b
theorem Inv.fpOk {X:Cx} {pins:List (Addr×Obj)} {σ:St} {H H':Hp} {s:Shared} {b:Addr} (I:Inv X pins σ H s) (hb:s.heap.objs.size≤b) (hn:H' b=none):FpOk X pins H' b:=by
 refine ⟨hn,Nat.ne_of_gt (Nat.lt_of_lt_of_le I.lt hb),I.nofs hb,.inr (Nat.le_trans I.sz hb),fun x c e z=>?_,fun p hp z=>?_⟩
 ·
  obtain ⟨v,q⟩:=I.cell x c e
  exact absurd (Nat.lt_of_lt_of_le q.lt (by rw [z]; exact hb)) (Nat.lt_irrefl _)
 ·
  exact absurd (Nat.lt_of_lt_of_le (Heap.lt_size (I.pin p hp).1) (by rw [z]; exact hb)) (Nat.lt_irrefl _)
structure Turn (P:Program) (w:World) (K:PySem.W.Frag) (tg:Expr) (J:It) (fp:List Addr) (it:Addr) (tn:Nat→Heap→Prop):Prop where
 mem:it∈fp
 obj:∀ i h,tn i h→∀ b∈fp,∃ o,h.get? b=some o∧∀ v,o.data≠.cell v
 keep:∀ i h h',tn i h→(∀ b∈fp,∀ o,h.get? b=some o→h'.get? b=some o)→tn i h'
 item:∀ (X:Cx),X.prog=P→X.w=w→X.K=K→X.calm=true→∀ (i:Nat) (pins:List (Addr×Obj)) (s:Shared) (σ:St) (H:Hp) (E:Value→Shared→Prop),Inv X pins σ H s→(∀ b∈fp,FpOk X pins H b)→tn i s.heap→J.go i H →
  wpAny (model P w) X.A (pyNext (.ref it)) (fun r s1=>∃ u,r=some u ∧
   wpAny (model P w) X.A (letOwnedTupleGo tg (.ref it) u) (fun _ s2=>∃ x H',Inv X pins σ H' s2∧RelV x u∧J.yld i H x H'∧tn (i+1) s2.heap∧∀ b∈fp,H' b=none) E s1) E s
 done:∀ (X:Cx),X.prog=P→X.w=w→X.K=K→X.calm=true→∀ (i:Nat) (pins:List (Addr×Obj)) (s:Shared) (σ:St) (H:Hp) (E:Value→Shared→Prop),Inv X pins σ H s→(∀ b∈fp,FpOk X pins H b)→tn i s.heap→J.stop i H →
  wpAny (model P w) X.A (pyNext (.ref it)) (fun r s1=>r=none∧Inv X pins σ H s1) E s
 self:∀ (A:Around) (i:Nat) (s:Shared) (Q:Value→Shared→Prop) (E:Value→Shared→Prop),tn i s.heap→Q (.ref it) s→wpAny (model P w) A (pyIter (.ref it)) Q E s
abbrev TI:=St→Hp→(It→Hp→Prop)→Prop
def PIE (X:Cx) (pins:List (Addr×Obj)) (σ:St) (tg:Expr) (R:It→Hp→Prop) (itv:Value) (s2:Shared):Prop :=
 ∃ (it:Addr) (fp:List Addr) (tn:Nat→Heap→Prop) (J:It) (H':Hp),itv=.ref it∧Inv X pins σ H' s2∧Turn X.prog X.w X.K tg J fp it tn∧tn 0 s2.heap∧(∀ b∈fp,FpOk X pins H' b)∧R J H'
def PI (X:Cx) (tg iter:Expr) (wi:TI):Prop :=
 ∀ (pins:List (Addr×Obj)) (s:Shared) (σ:St) (H:Hp) (R:It→Hp→Prop),Inv X pins σ H s→wi σ H R →
  wpAny (model X.prog X.w) X.A (eval iter X.env) (fun v s1=>wpAny (model X.prog X.w) X.A (pyIter v) (PIE X pins σ tg R) X.xe s1) X.xe s
theorem go_of {M : Model} {A : Around} {E : Value → Shared → Prop} {s : Shared} {tg : Expr} {it : Addr} {u : Value} {o : Obj} {n : String} {vs : Array Value} {Q : Unit → Shared → Prop} (ho : s.heap.get? it = some o) (hc : o.cls = .type n) (hd : o.data = .fields vs)
    (hn : ["enumerate", "zip", "dict_itemiterator", "dict_reverseitemiterator", "odict_iterator", "itertools.zip_longest", "itertools.pairwise"].contains n = false) (hQ : Q () s) : wpAny M A (letOwnedTupleGo tg (.ref it) u) Q E s := by
  unfold letOwnedTupleGo
  cases tg <;> first
    | exact wpAny_pure hQ
    | (cases u <;> first
        | exact wpAny_pure hQ
        | (refine wpAny_bind (wpAny_load ho ?_)
           rw [hc, hd]
           show wpAny M A (if (["enumerate", "zip", "dict_itemiterator", "dict_reverseitemiterator", "odict_iterator", "itertools.zip_longest", "itertools.pairwise"].contains n && vs[0]? == some (rawInt _)) = true then _ else _) Q E s
           rw [if_neg (by intro h; rw [hn, Bool.false_and] at h; cases h)]
           exact wpAny_pure hQ))
def Itl (K:PySem.W.Frag) (a:Addr):It :=
 ⟨fun i H=>∃ xs x,SqL K H a xs∧xs[i]?=some x,fun i H x H'=>H'=H∧∀ xs,SqL K H a xs→xs[i]?=some x,fun i H=>∃ xs,SqL K H a xs∧xs.length≤i⟩
def Itt (K:PySem.W.Frag) (a:Addr):It :=
 ⟨fun i H=>∃ xs x,SqT K H a xs∧xs[i]?=some x,fun i H x H'=>H'=H∧∀ xs,SqT K H a xs→xs[i]?=some x,fun i H=>∃ xs,SqT K H a xs∧xs.length≤i⟩
def Itr (lo:Int) (n:Nat):It:=⟨fun i _=>i < n,fun i H x H'=>H'=H∧x=.int (lo+i),fun i _=>n≤i⟩
theorem turn_list {P:Program} {w:World} {K:PySem.W.Frag} {tg:Expr} (a it:Addr):Turn P w K tg (Itl K a) [it] it (fun i h=>h.IsListIter it a i) where
 mem:=by simp
 obj:=fun i h st b hb=>by
  have e:b=it:=by simpa using hb
  subst e
  obtain ⟨o,e,c,d⟩:=st
  exact ⟨o,e,fun v z=>by rw [d] at z; cases z⟩
 keep:=fun i h h' st k=>st.at fun o e=>k it (by simp) o e
 item:=by
  intro X hP hw hK hc i pins s σ H E I hf st hg
  subst hP hw hK
  obtain ⟨xs,x,hq,hx⟩:=hg
  obtain ⟨its,rv,p,hz⟩:=I.list hq
  obtain ⟨u,hu,ru⟩:=rv.get hx
  obtain ⟨f0,f1,f2,f3,f4,f5⟩:=hf it (by simp)
  refine wpAny_pyNext_list_item st p.isList (x:=u) (by simpa using hu) fun h' st' sb=>?_
  have I1:Inv X pins σ H { s with heap:=h' }:=I.turned (t':=s.toks) (fun b o hb e=>(sb.2 b hb).trans e) f0 f1 f3 f4 f5
  obtain ⟨o,e,c,d⟩:=id st'
  exact ⟨u,rfl,go_of (s:={ s with heap:=h' }) e c d (by decide) ⟨x,H,I1,ru,⟨rfl,fun ys hy=>by rw [I.list_inj hy hq]; exact hx⟩,st',fun b hb=>(hf b hb).1⟩⟩
 done:=by
  intro X hP hw hK hc i pins s σ H E I hf st hg
  subst hP hw hK
  obtain ⟨xs,hq,hx⟩:=hg
  obtain ⟨its,rv,p,hz⟩:=I.list hq
  obtain ⟨f0,f1,f2,f3,f4,f5⟩:=hf it (by simp)
  have hl:=rv.length
  exact wpAny_pyNext_list_end (I.ok.hd hc) st p.isList (by simp; omega) fun h' eb=>⟨rfl,I.turned (t':=s.toks) (fun b o hb e=>eb b o hb e) f0 f1 f3 f4 f5⟩
 self:=fun _ _ _ _ _ st h=>wpAny_pyIter_listiter st h
theorem turn_tuple {P:Program} {w:World} {K:PySem.W.Frag} {tg:Expr} (a it:Addr):Turn P w K tg (Itt K a) [it] it (fun i h=>h.IsTupleIter it a i) where
 mem:=by simp
 obj:=fun i h st b hb=>by
  have e:b=it:=by simpa using hb
  subst e
  obtain ⟨o,e,c,d⟩:=st
  exact ⟨o,e,fun v z=>by rw [d] at z; cases z⟩
 keep:=fun i h h' st k=>st.at fun o e=>k it (by simp) o e
 item:=by
  intro X hP hw hK hc i pins s σ H E I hf st hg
  subst hP hw hK
  obtain ⟨xs,x,hq,hx⟩:=hg
  obtain ⟨its,rv,p,hz⟩:=I.tuple hq
  obtain ⟨u,hu,ru⟩:=rv.get hx
  obtain ⟨f0,f1,f2,f3,f4,f5⟩:=hf it (by simp)
  refine wpAny_pyNext_tuple_item st (show s.heap.IsTuple a its.toArray from p) (x:=u) (by simpa using hu) fun h' st' sb=>?_
  have I1:Inv X pins σ H { s with heap:=h' }:=I.turned (t':=s.toks) (fun b o hb e=>(sb.2 b hb).trans e) f0 f1 f3 f4 f5
  obtain ⟨o,e,c,d⟩:=id st'
  exact ⟨u,rfl,go_of (s:={ s with heap:=h' }) e c d (by decide) ⟨x,H,I1,ru,⟨rfl,fun ys hy=>by rw [I.tuple_inj hy hq]; exact hx⟩,st',fun b hb=>(hf b hb).1⟩⟩
 done:=by
  intro X hP hw hK hc i pins s σ H E I hf st hg
  subst hP hw hK
  obtain ⟨xs,hq,hx⟩:=hg
  obtain ⟨its,rv,p,hz⟩:=I.tuple hq
  obtain ⟨f0,f1,f2,f3,f4,f5⟩:=hf it (by simp)
  have hl:=rv.length
  exact wpAny_pyNext_tuple_end (I.ok.hd hc) st (show s.heap.IsTuple a its.toArray from p) (by simp; omega) fun h' eb=>⟨rfl,I.turned (t':=s.toks) (fun b o hb e=>eb b o hb e) f0 f1 f3 f4 f5⟩
 self:=fun _ _ _ _ _ st h=>wpAny_pyIter_tupleiter st h
theorem turn_range {P:Program} {w:World} {K:PySem.W.Frag} {tg:Expr} (it:Addr) (lo:Int) (n:Nat):Turn P w K tg (Itr lo n) [it] it (fun i h=>IsRangeIter h it (lo+(i:Nat)*1) ((n:Int) - (i:Nat)) 1) where
 mem:=by simp
 obj:=fun i h st b hb=>by
  have e:b=it:=by simpa using hb
  subst e
  exact ⟨_,st,fun v z=>by
   have z':Data.fields _=Data.cell v:=z
   cases z'⟩
 keep:=fun i h h' st k=>k it (by simp) _ st
 item:=by
  intro X hP hw hK hc i pins s σ H E I hf st hg
  subst hP hw hK
  obtain ⟨f0,f1,f2,f3,f4,f5⟩:=hf it (by simp)
  have W:=Walks.range (prog:=X.prog) (w:=X.w) (I.ok.hd hc) it lo 1 n
  refine W.item i s _ _ hg st fun v h' tk hv st' kk=>?_
  obtain ⟨t,rfl⟩:=hv
  have I1:Inv X pins σ H { s with heap:=h',toks:=tk }:=I.turned (fun b o hb e=>kk b o (by simpa using hb) e) f0 f1 f3 f4 f5
  refine ⟨_,rfl,go_of (s:={ s with heap:=h',toks:=tk }) (n:="range_iterator") st' rfl rfl (by decide) ⟨.int (lo+i),H,I1,⟨t,?_⟩,⟨rfl,rfl⟩,st',fun b hb=>(hf b hb).1⟩⟩
  rw [Int.mul_one]
 done:=by
  intro X hP hw hK hc i pins s σ H E I hf st hg
  subst hP hw hK
  obtain ⟨f0,f1,f2,f3,f4,f5⟩:=hf it (by simp)
  exact wpAny_pyNext_range_end (I.ok.hd hc) st (by have:n≤i:=hg; omega) fun h' eb=>⟨rfl,I.turned (t':=s.toks) (fun b o hb e=>eb b o hb e) f0 f1 f3 f4 f5⟩
 self:=fun _ _ _ _ _ st h=>wpAny_pyIter_rangeiter st h
end L2
namespace L2
open PySem PySem.Spec PyProof.Rows
section
variable {X:Cx} {tg:Expr}
theorem range_it {pins:List (Addr×Obj)} {σ:St} {H:Hp} {s:Shared} {R:It→Hp→Prop} {E:Value→Shared→Prop} {lo hi:Int} {t u v:Tok} {tk:Nat} (I:Inv X pins σ H s) (h1 : -(2 ^ 62)≤lo) (h2:lo < 2 ^ 62) (h3 : -(2 ^ 62)≤hi) (h4:hi < 2 ^ 62)
  (q:R (Itr lo (hi - lo).toNat) H):wpAny (model X.prog X.w) X.A (pyIter (.ref s.heap.objs.size)) (PIE X pins σ tg R) E { s with heap:=s.heap.push { cls:=.type "range",data:=.fields #[.int lo t,.int hi u,.int 1 v] },toks:=tk }:=by
 refine wpAny_pyIter_range (IsRange.new ..) (small_one h1 h2 h3 h4) ?_
 have I1:Inv X pins σ H { s with heap:=s.heap.push { cls:=.type "range",data:=.fields #[.int lo t,.int hi u,.int 1 v] },toks:=tk }:=I.kept fun b o e=>Heap.get?_push_of_some _ e
 refine ⟨(s.heap.push { cls:=.type "range",data:=.fields #[.int lo t,.int hi u,.int 1 v] }).objs.size,[(s.heap.push { cls:=.type "range",data:=.fields #[.int lo t,.int hi u,.int 1 v] }).objs.size],_,_,H,rfl,
  I1.kept (t':=tk) fun b o e=>Heap.get?_push_of_some _ e,turn_range _ lo (hi - lo).toNat,?_,fun b hb=>?_,q⟩
 ·
  have e1:lo+((0:Nat):Int)*1=lo:=by simp
  have e2:(((hi - lo).toNat:Nat):Int) - ((0:Nat):Int)=Builtin.Range.rangeSize lo hi 1:=by rw [rangeSize_one]; split <;> omega
  show IsRangeIter _ _ (lo+((0:Nat):Int)*1) ((((hi - lo).toNat:Nat):Int) - ((0:Nat):Int)) 1
  rw [e1,e2]
  exact Heap.get?_push_size _ rfl
 ·
  have e:b=(s.heap.push { cls:=.type "range",data:=.fields #[.int lo t,.int hi u,.int 1 v] }).objs.size:=by simpa using hb
  subst e
  exact I1.fpOk (Nat.le_refl _) (I1.hok.fresh (Nat.le_refl _))
def iRng1 (ta:TA):TI:=fun σ H R=>ta σ H fun vs H1=>∃ j:Int,vs=[.int j]∧-(2 ^ 62)≤j∧j < 2 ^ 62∧R (Itr 0 j.toNat) H1
def iRng2 (ta:TA):TI:=fun σ H R=>ta σ H fun vs H1=>∃ i j:Int,vs=[.int i,.int j]∧(-(2 ^ 62)≤i∧i < 2 ^ 62∧-(2 ^ 62)≤j∧j < 2 ^ 62)∧R (Itr i (j - i).toNat) H1
theorem pi_range1 {a:Expr} {ta:TA} {p pos:Pos} (hg:Gl X "range") (hm:X.mg "range"=none) (ha:PA X [a] ta) (hs:starEach [a] X.env=[(false,eval a X.env)]:=by rfl):PI X tg (.Call (.Name "range" p) [a] [] pos) (iRng1 ta):=by
 intro pins s σ H R I h
 refine Call_ (ld_blt I hg hm boot_range (PyProof.Rows.callWith_type1 (thn (ha pos pins s σ H _ I h) fun us s1 ⟨vs,H1,I1,r1,q1⟩=>?_) hs rfl))
 obtain ⟨j,e,q1,q2,q⟩:=q1
 subst e
 cases r1 with
 | cons r rr =>
  cases rr
  obtain ⟨t,rfl⟩:=r
  exact call_range_1 (range_it I1 (by omega) (by omega) q1 q2 (by simpa using q))
theorem pi_range2 {a b:Expr} {ta:TA} {p pos:Pos} (hg:Gl X "range") (hm:X.mg "range"=none) (ha:PA X [a,b] ta) (hs:starEach [a,b] X.env=[(false,eval a X.env),(false,eval b X.env)]:=by rfl) (hs2:starEach [b] X.env=[(false,eval b X.env)]:=by rfl) :
  PI X tg (.Call (.Name "range" p) [a,b] [] pos) (iRng2 ta):=by
 intro pins s σ H R I h
 refine Call_ (ld_blt I hg hm boot_range (PyProof.Rows.callWith_type1 (thn (ha pos pins s σ H _ I h) fun us s1 ⟨vs,H1,I1,r1,q1⟩=>?_) (by rw [hs,hs2]) (by rw [hs2]; rfl)))
 obtain ⟨i,j,e,⟨q1,q2,q3,q4⟩,q⟩:=q1
 subst e
 cases r1 with
 | cons r rr =>
  cases rr with
  | cons r' rr =>
   cases rr
   obtain ⟨t,rfl⟩:=r
   obtain ⟨t',rfl⟩:=r'
   exact call_range_2 (range_it I1 q1 q2 q3 q4 q)
def pinsAt (fp:List Addr) (h:Heap):List (Addr×Obj):=fp.filterMap fun b=>(h.get? b).map fun o=>(b,o)
theorem mem_pinsAt {fp:List Addr} {h:Heap} {b:Addr} {o:Obj} (hb:b∈fp) (e:h.get? b=some o):(b,o)∈pinsAt fp h:=List.mem_filterMap.mpr ⟨b,hb,by rw [e]; rfl⟩
theorem of_pinsAt {fp:List Addr} {h:Heap} {p:Addr×Obj} (hp:p∈pinsAt fp h):p.1∈fp∧h.get? p.1=some p.2:=by
 obtain ⟨b,hb,e⟩:=List.mem_filterMap.mp hp
 cases q:h.get? b with
 | none=>rw [q] at e; cases e
 | some o =>
  rw [q] at e
  have e':(b,o)=p:=Option.some.inj e
  subst e'
  exact ⟨hb,q⟩
theorem Inv.pinned {pins:List (Addr×Obj)} {σ:St} {H:Hp} {s:Shared} {fp:List Addr} (I:Inv X pins σ H s) (hf:∀ b∈fp,FpOk X pins H b) (ho:∀ b∈fp,∃ o,s.heap.get? b=some o∧∀ v,o.data≠.cell v):Inv X (pins++pinsAt fp s.heap) σ H s :=
 I.pins_of fun p hp=>(List.mem_append.mp hp).elim (fun z=>I.pin p (List.mem_append_right _ z)) fun z=>by
  obtain ⟨hb,e⟩:=of_pinsAt z
  obtain ⟨f0,f1,f2,_⟩:=hf p.1 hb
  obtain ⟨o,e',d⟩:=ho p.1 hb
  rw [e] at e'; cases e'
  exact ⟨e,f0,f1,f2,d⟩
theorem Inv.unpinned {pins pl:List (Addr×Obj)} {σ:St} {H:Hp} {s:Shared} (I:Inv X (pins++pl) σ H s):Inv X pins σ H s:=I.pins_of fun p hp=>I.pin p (List.mem_append_right _ (List.mem_append_left _ hp))
end
end L2
namespace L2
open PySem PySem.Spec PyProof.Rows
abbrev R2:=V→V→Hp→VK→Prop
def OpR (X:Cx) (f:Value→Value→Sem Value) (r:R2):Prop :=
 ∀ (pins:List (Addr×Obj)) (s:Shared) (σ:St) (H:Hp) (x y:V) (v u:Value) (Q:VK),Inv X pins σ H s→RelV x v→RelV y u→r x y H Q →
  wpAny (model X.prog X.w) X.A (f v u) (EP X pins σ Q) X.xe s
def UnR (X:Cx) (f:Value→Sem Value) (r:V→Hp→VK→Prop):Prop :=
 ∀ (pins:List (Addr×Obj)) (s:Shared) (σ:St) (H:Hp) (x:V) (v:Value) (Q:VK),Inv X pins σ H s→RelV x v→r x H Q →
  wpAny (model X.prog X.w) X.A (f v) (EP X pins σ Q) X.xe s
def CallR (X:Cx) (f:Value) (r:List V→Hp→VK→Prop):Prop :=
 ∀ (pins:List (Addr×Obj)) (s:Shared) (σ:St) (H:Hp) (xs:List V) (us:List Value) (Q:VK),Inv X pins σ H s→Vals xs us→r xs H Q →
  wpAny (model X.prog X.w) X.A (call f us) (EP X pins σ Q) X.xe s
def TruR (X:Cx) (r:V→Hp→(Bool→Hp→Prop)→Prop):Prop :=
 ∀ (pins:List (Addr×Obj)) (s:Shared) (σ:St) (H:Hp) (x:V) (v:Value) (Q:Bool→Hp→Prop),Inv X pins σ H s→RelV x v→r x H Q →
  wpAny (model X.prog X.w) X.A (truthy v) (TP X pins σ Q) X.xe s
def tOp (r:R2) (ta tb:TE):TE:=fun σ H Q=>ta σ H fun x H1=>tb σ H1 fun y H2=>r x y H2 Q
def rI (C:Int→Int→Prop) (g:Int→Int→V):R2:=fun x y H Q=>∃ i j,x=.int i∧y=.int j∧C i j∧Q (g i j) H
def rI0 (g:Int→Int→V):R2:=fun x y H Q=>∃ i j,x=.int i∧y=.int j∧Q (g i j) H
def rU (g:Int→V):V→Hp→VK→Prop:=fun x H Q=>∃ i,x=.int i∧Q (g i) H
section
variable {X:Cx} {a b c:Expr} {ta tb tc:TE} {pos:Pos}
theorem binT (ha:PE X a ta) (hb:PE X b tb) {pins:List (Addr×Obj)} {s:Shared} {σ:St} {H:Hp} {R:V→V→Hp→Prop} (I:Inv X pins σ H s)
  (h:ta σ H fun x H1=>tb σ H1 fun y H2=>R x y H2) {Q:Value→Shared→Prop} {f:Value→Value→Sem Value}
  (hf:∀ v u s2 x y H2,Inv X pins σ H2 s2→RelV x v→RelV y u→R x y H2→wpAny (model X.prog X.w) X.A (f v u) Q X.xe s2) :
  wpAny (model X.prog X.w) X.A (eval a X.env) (fun v s₁=>wpAny (model X.prog X.w) X.A (eval b X.env) (fun u s₂=>wpAny (model X.prog X.w) X.A (f v u) Q X.xe s₂) X.xe s₁) X.xe s:=by
 refine thn (ha pins s σ H _ I h) fun v s1 ⟨x,H1,I1,r1,q1⟩=>?_
 refine thn (hb pins s1 σ H1 _ I1 q1) fun u s2 ⟨y,H2,I2,r2,q2⟩=>?_
 exact hf v u s2 x y H2 I2 r1 r2 q2
theorem opI {f:Value→Value→Sem Value} {C:Int→Int→Prop} {g:Int→Int→Int}
  (rule:∀ (i j:Int) (t u:Tok) (s:Shared) (Q:Value→Shared→Prop) (E:Value→Shared→Prop),C i j→Q (.int (g i j) s.toks) { s with toks:=s.toks+1 }→wpAny (model X.prog X.w) X.A (f (.int i t) (.int j u)) Q E s) :
  OpR X f (rI C fun i j=>.int (g i j)):=by
 intro pins s σ H x y v u Q I rx ry h
 obtain ⟨i,j,rfl,rfl,hc,q⟩:=h
 obtain ⟨t,rfl⟩:=rx
 obtain ⟨t',rfl⟩:=ry
 exact rule i j t t' s _ _ hc ⟨.int (g i j),H,I.tok _,⟨_,rfl⟩,q⟩
theorem opI0 {f:Value→Value→Sem Value} {g:Int→Int→Int}
  (rule:∀ (i j:Int) (t u:Tok) (s:Shared) (Q:Value→Shared→Prop) (E:Value→Shared→Prop),Q (.int (g i j) s.toks) { s with toks:=s.toks+1 }→wpAny (model X.prog X.w) X.A (f (.int i t) (.int j u)) Q E s) :
  OpR X f (rI0 fun i j=>.int (g i j)):=by
 intro pins s σ H x y v u Q I rx ry h
 obtain ⟨i,j,rfl,rfl,q⟩:=h
 obtain ⟨t,rfl⟩:=rx
 obtain ⟨t',rfl⟩:=ry
 exact rule i j t t' s _ _ ⟨.int (g i j),H,I.tok _,⟨_,rfl⟩,q⟩
theorem opB0 {f:Value→Value→Sem Value} {g:Int→Int→Bool}
  (rule:∀ (i j:Int) (t u:Tok) (s:Shared) (Q:Value→Shared→Prop) (E:Value→Shared→Prop),Q (.bool (g i j)) s→wpAny (model X.prog X.w) X.A (f (.int i t) (.int j u)) Q E s) :
  OpR X f (rI0 fun i j=>.bl (g i j)):=by
 intro pins s σ H x y v u Q I rx ry h
 obtain ⟨i,j,rfl,rfl,q⟩:=h
 obtain ⟨t,rfl⟩:=rx
 obtain ⟨t',rfl⟩:=ry
 exact rule i j t t' s _ _ ⟨.bl (g i j),H,I,rfl,q⟩
def CPow (i j:Int):Prop:=0≤j∧j≤1000000∧i.natAbs < 2 ^ 64
def CMul (i j:Int):Prop:=(-(2 ^ 64) < i∧i < 2 ^ 64)∨(-(2 ^ 64) < j∧j < 2 ^ 64)
theorem CMul.ok {i j:Int} (h:CMul i j):IntMulOk i j:=by
 rcases h with ⟨h1,h2⟩ | ⟨h1,h2⟩
 ·
  exact .of_left (intBits_le_64 h1 h2)
 ·
  exact .of_right (intBits_le_64 h1 h2)
theorem op_add:OpR X (binaryOp .Add) (rI0 fun i j=>.int (i+j)):=opI0 fun _ _ _ _ _ _ _ q=>add_int q
theorem op_sub:OpR X (binaryOp .Sub) (rI0 fun i j=>.int (i - j)):=opI0 fun _ _ _ _ _ _ _ q=>sub_int q
theorem op_modN:OpR X (binaryOp .Mod) (rI (fun _ j=>j≠0) fun i j=>.int (i.fmod j)):=opI fun _ _ _ _ _ _ _ hc q=>mod_int' hc q
theorem op_pow:OpR X (binaryOp .Pow) (rI CPow fun i j=>.int (i ^ j.toNat)):=opI fun _ _ _ _ _ _ _ hc q=>pow_int_small hc.1 hc.2.1 hc.2.2 q
theorem unI {f:Value→Sem Value} {g:Int→Int}
  (rule:∀ (i:Int) (t:Tok) (s:Shared) (Q:Value→Shared→Prop) (E:Value→Shared→Prop),Q (.int (g i) s.toks) { s with toks:=s.toks+1 }→wpAny (model X.prog X.w) X.A (f (.int i t)) Q E s) :
  UnR X f (rU fun i=>.int (g i)):=by
 intro pins s σ H x v Q I rx h
 obtain ⟨i,rfl,q⟩:=h
 obtain ⟨t,rfl⟩:=rx
 exact rule i t s _ _ ⟨.int (g i),H,I.tok _,⟨_,rfl⟩,q⟩
theorem un_neg:UnR X (unaryOp .USub) (rU fun i=>.int (-i)):=unI fun _ _ _ _ _ q=>neg_int q
end
section
variable {X:Cx} {a b c:Expr} {ta tb tc:TE} {pos:Pos}
theorem fin_bl {pins:List (Addr×Obj)} {σ:St} {H:Hp} {s:Shared} {Q:VK} {k k':Bool} (I:Inv X pins σ H s) (q:Q (.bl k) H) (e:k=k'):EP X pins σ Q (.bool k') s:=by
 subst e
 exact ⟨.bl k,H,I,rfl,q⟩
theorem op_lt:OpR X (compareOp .Lt) (rI0 fun i j=>.bl (decide (i < j))):=opB0 fun _ _ _ _ _ _ _ q=>lt_int q
theorem op_le:OpR X (compareOp .LtE) (rI0 fun i j=>.bl (decide (i≤j))):=opB0 fun _ _ _ _ _ _ _ q=>le_int q
theorem op_gt:OpR X (compareOp .Gt) (rI0 fun i j=>.bl (decide (j < i))):=opB0 fun _ _ _ _ _ _ _ q=>gt_int q
theorem op_ge:OpR X (compareOp .GtE) (rI0 fun i j=>.bl (decide (j≤i))):=opB0 fun _ _ _ _ _ _ _ q=>ge_int q
theorem op_isN:OpR X (compareOp .Is) (fun x y H Q=>y=.non∧Q (.bl (decide (x=.non))) H):=by
 intro pins s σ H x y v u Q I rx ry h
 obtain ⟨rfl,q⟩:=h
 cases ry
 refine is_none_gen (fin_bl I q ?_)
 cases x <;> first
  | (cases rx; rfl)
  | (obtain ⟨t,rfl⟩:=rx; rfl)
theorem op_notN:OpR X (compareOp .IsNot) (fun x y H Q=>y=.non∧Q (.bl (!decide (x=.non))) H):=by
 intro pins s σ H x y v u Q I rx ry h
 obtain ⟨rfl,q⟩:=h
 cases ry
 refine isnot_none_gen (fin_bl I q ?_)
 cases x <;> first
  | (cases rx; rfl)
  | (obtain ⟨t,rfl⟩:=rx; rfl)
theorem OpR.or {f:Value→Value→Sem Value} {r r':R2} (h:OpR X f r) (h':OpR X f r'):OpR X f (fun x y H Q=>r x y H Q∨r' x y H Q):=by
 intro pins s σ H x y v u Q I rx ry q
 rcases q with q | q
 ·
  exact h pins s σ H x y v u Q I rx ry q
 ·
  exact h' pins s σ H x y v u Q I rx ry q
theorem aD (b:Expr) {op:CmpOp} (h:op≠.In:=by decide) (h2:op≠.NotIn:=by decide):behindInMarks op b=false:=by
 have e1:(op == CmpOp.In)=false:=by cases op <;> first | rfl | exact absurd rfl h
 have e2:(op == CmpOp.NotIn)=false:=by cases op <;> first | rfl | exact absurd rfl h2
 cases b <;> simp [behindInMarks,e1,e2]
def tChain (r r':R2) (ta tb tc:TE):TE:=fun σ H Q=>ta σ H fun x H1=>tb σ H1 fun y H2=>r x y H2 fun z H3=>∃ k,z=.bl k ∧
 (if k=true then tc σ H3 fun w' H4=>r' y w' H4 Q else Q (.bl false) H3)
theorem pe_chain {op op':CmpOp} {r r':R2} (ho:OpR X (compareOp op) r) (ho':OpR X (compareOp op') r') (ha:PE X a ta) (hb:PE X b tb) (hc:PE X c tc)
  (hm:lastMarks [op,op'] [b,c]=false:=by with_unfolding_all rfl):PE X (.Compare a [op,op'] [b,c] pos) (tChain r r' ta tb tc):=by
 intro pins s σ H Q I h
 refine Compare_chain (thn (ha pins s σ H _ I h) fun v s1 ⟨x,H1,I1,r1,q1⟩=>chain_link (thn (hb pins s1 σ H1 _ I1 q1) fun u s2 ⟨y,H2,I2,r2,q2⟩ =>
  thn (ho pins s2 σ H2 x y v u _ I2 r1 r2 q2) fun d s3 ⟨z,H3,I3,r3,k,e,q3⟩=>?_)) hm
 subst e
 cases r3
 refine wpAny_truthy_bool ?_
 cases k with
 | false=>exact ite_ff ⟨.bl false,H3,I3,rfl,q3⟩
 | true=>exact ite_tt (chain_last (thn (hc pins s3 σ H3 _ I3 q3) fun w' s4 ⟨z',H4,I4,r4,q4⟩=>ho' pins s4 σ H4 y z' u w' Q I4 r2 r4 q4))
def TruV (K:PySem.W.Frag) (x:V) (H:Hp) (k:Bool):Prop :=
 match x with
 | .non=>k=false
 | .bl b=>k=b
 | .int i=>k=(i != 0)
 | .str y=>y.length≤sizeLine∧k=((y.length:Int) != 0)
 | .byt y=>y.size≤sizeLine∧k=((y.size:Int) != 0)
 | .ref p=>(∃ xs,SqL K H p xs∧k=!xs.isEmpty)∨(∃ xs,SqT K H p xs∧k=!xs.isEmpty)∨∃ kvs,H p=some (.dK kvs)∧k=!kvs.isEmpty
 | _=>False
theorem isEmpty_kv {κ:Type} {kvs:List (κ×V)} {vs:List (κ×Value)} (r:KV kvs vs):(!vs.isEmpty)=!kvs.isEmpty:=by
 cases r <;> rfl
theorem isEmpty_of {xs:List V} {its:List Value} (r:Vals xs its):(!its.toArray.isEmpty)=!xs.isEmpty:=by
 cases r <;> simp
theorem line63:(sizeLine:Nat) < 2 ^ 63:=by rw [sizeLine_eq]; decide
theorem tru_ok:TruR X (fun x H Q=>∃ k,TruV X.K x H k∧Q k H):=by
 intro pins s σ H x v Q I rx h
 obtain ⟨k,e,q⟩:=h
 have hl:=line63
 have hs:sizeLine=16777216:=sizeLine_eq
 cases x with
 | non =>
  cases rx
  have e':k=false:=e
  subst e'
  exact truthy_none ⟨H,I,q⟩
 | bl b =>
  cases rx
  have e':k=b:=e
  subst e'
  exact wpAny_truthy_bool ⟨H,I,q⟩
 | int i =>
  obtain ⟨t,rfl⟩:=rx
  have e':k=(i != 0):=e
  subst e'
  exact PySem.P.truthy_int ⟨H,I,q⟩
 | str y =>
  obtain ⟨t,rfl⟩:=rx
  obtain ⟨hy,e'⟩:y.length≤sizeLine∧k=((y.length:Int) != 0):=e
  subst e'
  exact PySem.P.truthy_str (by omega) ⟨H,I.tok _,q⟩
 | byt y =>
  obtain ⟨t,rfl⟩:=rx
  obtain ⟨hy,e'⟩:y.size≤sizeLine∧k=((y.size:Int) != 0):=e
  subst e'
  exact PySem.W.truthy_bytes (by omega) ⟨H,I.tok _,q⟩
 | ref p =>
  cases rx
  have e':(∃ xs,SqL X.K H p xs∧k=!xs.isEmpty)∨(∃ xs,SqT X.K H p xs∧k=!xs.isEmpty)∨∃ kvs,H p=some (.dK kvs)∧k=!kvs.isEmpty:=e
  rcases e' with ⟨xs,hx,e'⟩ | ⟨xs,hx,e'⟩ | ⟨kvs,hx,e'⟩
  ·
   subst e'
   obtain ⟨its,r,pl,hz⟩:=I.list hx
   have hlen:=r.length
   exact wpAny_truthy_list pl.isList (by simp only [List.size_toArray]; omega) ⟨H,I.tok _,by rw [isEmpty_of r]; exact q⟩
  ·
   subst e'
   obtain ⟨its,r,pl,hz⟩:=I.tuple hx
   have hlen:=r.length
   exact truthy_tuple pl (by simp only [List.size_toArray]; omega) ⟨H,I.tok _,by rw [isEmpty_of r]; exact q⟩
  ·
   subst e'
   obtain ⟨hz,hS,vs,r,m⟩:kvs.length≤sizeLine∧(p == sysModules)=false∧∃ vs,KV kvs vs∧s.heap.DictOf (mixKind X.prog X.w) p vs:=I.hok p _ hx
   have hlen:kvs.length=vs.length:=Paired.length r
   exact wpAny_truthy_dict hS m (by omega) ⟨H,I.tok _,by rw [isEmpty_kv r]; exact q⟩
 | _=>exact (show False from e).elim
theorem pt_truth (ha:PE X a ta) (he:∀ whole,isTrue a X.env whole=(do let v ← whole; standAt a.pos; holding [v] (truthy v))) :
  PT X a (fun σ H Q=>ta σ H fun x H'=>∃ k,TruV X.K x H' k∧Q k H'):=by
 intro pins s σ H Q I h
 exact isTrue_plain (thn (ha pins s σ H _ I h) fun v s1 ⟨x,H1,I1,r1,q1⟩=>tru_ok pins s1 σ H1 x v Q I1 r1 q1) (he _)
theorem op_add_str:OpR X (binaryOp .Add) (fun x y H Q=>∃ i j,x=.str i∧y=.str j∧i.length+j.length≤sizeLine∧Q (.str (i++j)) H):=by
 intro pins s σ H x y v u Q I rx ry h
 obtain ⟨i,j,rfl,rfl,hz,q⟩:=h
 obtain ⟨t,rfl⟩:=rx
 obtain ⟨t',rfl⟩:=ry
 exact add_str (fun t' tk=>⟨.str (i++j),H,I.tok _,⟨_,rfl⟩,q⟩) hz
theorem vals1 {x:V} {us:List Value} (r:Vals [x] us):∃ u,us=[u]∧RelV x u:=by
 cases r with
 | cons r1 r2=>cases r2; exact ⟨_,rfl,r1⟩
theorem vals2 {x y:V} {us:List Value} (r:Vals [x,y] us):∃ u w',us=[u,w']∧RelV x u∧RelV y w':=by
 cases r with
 | cons r1 r2 =>
  cases r2 with
  | cons r3 r4=>cases r4; exact ⟨_,_,rfl,r1,r3⟩
theorem call_abs:CallR X (.builtin "abs") (fun xs H Q=>∃ i,xs=[.int i]∧Q (.int (if i < 0 then -i else i)) H):=by
 intro pins s σ H xs us Q I r h
 obtain ⟨i,rfl,q⟩:=h
 obtain ⟨u,rfl,t,rfl⟩:=vals1 r
 exact call_abs_int fun u tk=>⟨.int (if i < 0 then -i else i),H,I.tok _,⟨_,rfl⟩,q⟩
theorem call_max2 (hc:X.calm=true):CallR X (.builtin "max") (fun xs H Q=>∃ i j,xs=[.int i,.int j]∧Q (.int (if j > i then j else i)) H):=by
 intro pins s σ H xs us Q I r h
 obtain ⟨i,j,rfl,q⟩:=h
 obtain ⟨u,w',rfl,⟨t,rfl⟩,⟨t',rfl⟩⟩:=vals2 r
 refine max_two_ints (I.ok.hd hc) fun h' tk k=>⟨_,H,I.kept k,?_,q⟩
 by_cases hj:j > i
 ·
  rw [if_pos hj,if_pos hj]; exact ⟨_,rfl⟩
 ·
  rw [if_neg hj,if_neg hj]; exact ⟨_,rfl⟩
theorem call_min2 (hc:X.calm=true):CallR X (.builtin "min") (fun xs H Q=>∃ i j,xs=[.int i,.int j]∧Q (.int (if j < i then j else i)) H):=by
 intro pins s σ H xs us Q I r h
 obtain ⟨i,j,rfl,q⟩:=h
 obtain ⟨u,w',rfl,⟨t,rfl⟩,⟨t',rfl⟩⟩:=vals2 r
 refine min_two_ints (I.ok.hd hc) fun h' tk k=>⟨_,H,I.kept k,?_,q⟩
 by_cases hj:j < i
 ·
  rw [if_pos hj,if_pos hj]; exact ⟨_,rfl⟩
 ·
  rw [if_neg hj,if_neg hj]; exact ⟨_,rfl⟩
theorem call_int1:CallR X (.type "int") (fun xs H Q=>(∃ i,xs=[.int i]∧Q (.int i) H)∨∃ k,xs=[.bl k]∧Q (.int (if k then 1 else 0)) H):=by
 intro pins s σ H xs us Q I r h
 rcases h with ⟨i,rfl,q⟩ | ⟨k,rfl,q⟩
 ·
  obtain ⟨u,rfl,t,rfl⟩:=vals1 r
  exact call_int_int ⟨.int i,H,I,⟨_,rfl⟩,q⟩
 ·
  obtain ⟨u,rfl,r1⟩:=vals1 r
  cases r1
  exact call_int_bool ⟨.int (if k then 1 else 0),H,I.tok _,⟨_,rfl⟩,q⟩
end
end L2
namespace L2
open PySem PySem.Spec PyProof.Rows
section
variable {prog:Program} {w:World} {A:Around} {E:Value→Shared→Prop} {s:Shared} {K:PySem.W.Frag} {x dx C f:Addr} {mA:Str→Option Value} {name:Str} {v:Value}
end
section
variable {P:Program} {w:World} {H H':Hp} {h h':Heap} {a C dx:Addr} {fs fs':List (Str×V)}
end
structure Cls (K:PySem.W.Frag) (C:Addr):Prop where
 pg:PySem.W.plainGet K C Str.empty=true
 hd:PySem.W.hasDictIn K C=true
 po:PySem.W.plainOver K C=true
 sa:PySem.W.findIn K (.ref C) "__setattr__"=some (some (.builtin "object.__setattr__"))
theorem Cls.get {K:PySem.W.Frag} {C:Addr} (c:Cls K C) (f:Str):PySem.W.plainGet K C f=true:=c.pg
section
variable {X:Cx} {pins:List (Addr×Obj)} {σ:St} {H:Hp} {s:Shared} {a C dx:Addr} {fs:List (Str×V)} {f:Str} {v:V} {A:Around} {E:Value→Shared→Prop}
theorem Inv.made (I:Inv X pins σ H s):Inv X pins σ (upd (upd H s.heap.objs.size (.own (s.heap.objs.size+1))) (s.heap.objs.size+1) (.ins C s.heap.objs.size []))
  { s with heap:=(s.heap.push PySem.W.emptyDict).push (PySem.W.instObj C s.heap.objs.size) }:=by
 have e1:(s.heap.push PySem.W.emptyDict).get? s.heap.objs.size=some PySem.W.emptyDict:=Heap.get?_push_size s.heap rfl
 have e2:((s.heap.push PySem.W.emptyDict).push (PySem.W.instObj C s.heap.objs.size)).get? (s.heap.objs.size+1)=some (PySem.W.instObj C s.heap.objs.size):=by
  have:=Heap.get?_push_size (s.heap.push PySem.W.emptyDict) (o:=PySem.W.instObj C s.heap.objs.size) rfl
  rwa [Heap.size_push] at this
 have e3:(s.heap.push PySem.W.emptyDict).Ns s.heap.objs.size (fun _=>none):=⟨PySem.W.emptyDict,#[],_,e1,rfl,(fun e he=>absurd he (by simp)),fun _=>rfl⟩
 have I1:=I.laid (a:=s.heap.objs.size) (o:=.own (s.heap.objs.size+1)) (h':=s.heap.push PySem.W.emptyDict) (t':=s.toks) (fun b u q=>Heap.get?_push_of_some _ q) (Nat.le_refl _) ⟨_,e1⟩
 refine I1.laid (a:=s.heap.objs.size+1) (o:=.ins C s.heap.objs.size []) (t':=s.toks) (fun b u q=>Heap.get?_push_of_some _ q) (Nat.le_of_eq (Heap.size_push _ _)) ?_
 have ne:s.heap.objs.size≠s.heap.objs.size+1:=Nat.ne_of_lt (Nat.lt_succ_self _)
 refine ⟨by rw [aI ne,bT],Nat.zero_le _,ne,e2,fun _=>none,(Heap.Ns1.of_empty e3).at fun o q=>Heap.get?_push_of_some _ q,fun _=>True.intro,fun y hy=>absurd rfl hy⟩
end
section
variable {X:Cx} {o e value:Expr} {f:Str} {pos pos' tpos:Pos} {ta tv:TE}
end
section
variable {X:Cx} {pins:List (Addr×Obj)} {σ:St} {H:Hp} {s:Shared} {A:Around} {E:Value→Shared→Prop} {Q:Value→Shared→Prop} {c:Value} {b:Bool}
end
end L2
namespace L2
open PySem PySem.Spec PyProof.Rows
structure Room (k:Nat) (A:Around):Prop where
 hd:A.handled=none
 dp:A.depth+3*k+5 < recursionLimit
 un:A.units+16*k+200 < cLine
 gd:A.guards=some []
theorem Room.mono {j k:Nat} {A:Around} (r:Room k A) (h:j≤k):Room j A:=⟨r.hd,by have:=r.dp; omega,by have:=r.un; omega,r.gd⟩
theorem Room.deeper {k:Nat} {A:Around} (r:Room (k+1) A) (env:Env):Room k (A.deeper env) :=
 ⟨r.hd,by have:=r.dp; show A.depth+1+3*k+5 < _; omega,by have:=r.un; show A.units+3+16*k+200 < _; omega,r.gd⟩
theorem Room.in1 {k:Nat} {A:Around} (r:Room (k+1) A):Room k A.in1 :=
 ⟨r.hd,by have:=r.dp; show A.depth+3*k+5 < _; omega,by have:=r.un; show A.units+1+16*k+200 < _; omega,r.gd⟩
theorem Room.depth {k:Nat} {A:Around} (r:Room k A):A.depth < recursionLimit:=by have:=r.dp; omega
theorem Room.units {k:Nat} {A:Around} (r:Room k A):A.units+64 < cLine:=by have:=r.un; omega
def tNil:TA:=fun _ H Q=>Q [] H
def tCons (ta:TE) (tr:TA):TA:=fun σ H Q=>ta σ H fun x H1=>tr σ H1 fun xs H2=>Q (x::xs) H2
section
variable {X:Cx} {e:Expr} {es:List Expr} {te:TE} {t:TA} {pos:Pos}
theorem pa_nil:PA X [] tNil:=fun _ _ _ _ H Q I h=>Calls.spliced_nil ⟨[],H,I,.nil,h⟩
theorem dh (ha:PE X e te) (hr:PA X es t) (hs:starEach (e::es) X.env=(false,eval e X.env)::starEach es X.env:=by rfl):PA X (e::es) (tCons te t):=by
 intro pos pins s σ H Q I h
 rw [hs]
 show wpAny _ _ (spliced ((false,eval e X.env)::backTo pos (starEach es X.env))) _ _ s
 refine Calls.spliced_cons (thn (ha pins s σ H _ I h) fun u s1 ⟨x,H1,I1,r1,q1⟩=>?_)
 exact thn (hr pos pins s1 σ H1 _ I1 q1) fun us s2 ⟨xs,H2,I2,r2,q2⟩=>⟨x::xs,H2,I2,.cons r1 r2,q2⟩
end
abbrev Sp:=List V→Hp→VK→XK→Prop
abbrev CXT:=List Env→Hp→Shared→XK→Value→Shared→Prop
structure Env0 (P:Program) (w:World) (K:PySem.W.Frag) (mg:Str→Option Value) (base:Heap) (A:Around) (outer:List Env) (s:Shared) (H:Hp):Prop where
 frames:A.frames=some outer
 mod:Mod K mg base
 bs:∀ b o,base.get? b=some o→s.heap.get? b=some o∧H b=none
 bsz:base.objs.size≤s.heap.objs.size
 funs:s.heap.FunFrames base outer
 frf:∀ b∈frs outer,H b=none
 hok:HOk P w H s.heap
 bare:AllBare s.gens
def CE (outer:List Env) (P:Program) (w:World) (H:Hp) (s:Shared) (Q:VK) (u:Value) (s':Shared):Prop :=
 ∃ v H',s'.os=s.os∧AllBare s'.gens∧Un (frs outer) [] H H' s.heap s'.heap∧HOk P w H' s'.heap∧RelV v u∧Q v H'
def CR (CX:CXT) (outer:List Env) (P:Program) (w:World) (H:Hp) (s:Shared) (Q:VK) (E:XK) (r:Result) (s':Shared):Prop :=
 match r with
 | .ok (.ret u)=>CE outer P w H s Q u s'
 | .ok _=>False
 | .error e=>CX outer H s E e s'
structure FnOk (P:Program) (w:World) (K:PySem.W.Frag) (mg:Str→Option Value) (base:Heap) (CX:CXT) (k:Nat) (f:Addr) (fd:FuncData) (ps:List Str) (sp:Sp):Prop where
 len:∀ vs H Q E,sp vs H Q E→vs.length=ps.length
 run:∀ (A:Around) (outer:List Env) (s:Shared) (H:Hp) (args:Args) (us:List Value) (vs:List V) (Q:VK) (E:XK),Room k A→Env0 P w K mg base A outer s H→BindsTo s fd args (ps.zip us)→Vals vs us→sp vs H Q E →
  codeAny (model P w) A (.call (.ref f) args) (CR CX outer P w H s Q E) s
theorem FnOk.mono {P:Program} {w:World} {K:PySem.W.Frag} {mg:Str→Option Value} {base:Heap} {CX:CXT} {j k:Nat} {f:Addr} {fd:FuncData} {ps:List Str} {sp:Sp} (F:FnOk P w K mg base CX j f fd ps sp) (h:j≤k) :
  FnOk P w K mg base CX k f fd ps sp:=⟨F.len,fun A outer s H args us vs Q E hr=>F.run A outer s H args us vs Q E (hr.mono h)⟩
theorem FnOk.imp {P:Program} {w:World} {K:PySem.W.Frag} {mg:Str→Option Value} {base:Heap} {CX:CXT} {k:Nat} {f:Addr} {fd:FuncData} {ps:List Str} {sp sp':Sp} (F:FnOk P w K mg base CX k f fd ps sp)
  (h:∀ vs H Q E,sp' vs H Q E→sp vs H Q E):FnOk P w K mg base CX k f fd ps sp' :=
 ⟨fun vs H Q E q=>F.len vs H Q E (h _ _ _ _ q),fun A outer s H args us vs Q E hr he hb hv hs=>F.run A outer s H args us vs Q E hr he hb hv (h _ _ _ _ hs)⟩
theorem Env0.in1 {P:Program} {w:World} {K:PySem.W.Frag} {mg:Str→Option Value} {base:Heap} {A:Around} {outer:List Env} {s:Shared} {H:Hp} (e:Env0 P w K mg base A outer s H) :
  Env0 P w K mg base A.in1 outer s H:=⟨e.frames,e.mod,e.bs,e.bsz,e.funs,e.frf,e.hok,e.bare⟩
section
variable {X:Cx} {pins:List (Addr×Obj)} {σ:St} {H:Hp} {s s':Shared}
theorem Inv.env0 (I:Inv X pins σ H s):Env0 X.prog X.w X.K X.mg X.base X.A X.stack s H :=
 ⟨I.ok.frames,I.ok.mod,I.bs,Nat.le_trans I.ok.bsz I.sz,I.stack,I.stkFree,I.hok,I.bare⟩
theorem Inv.after {Q:VK} {u:Value} (I:Inv X pins σ H s) (h:CE X.stack X.prog X.w H s Q u s'):EP X pins σ Q u s':=by
 obtain ⟨v,H',os,bare,un,hok,r,q⟩:=h
 obtain ⟨hh,g,d,t,os'⟩:=s'
 obtain rfl:os'=s.os:=os
 exact ⟨v,H',I.call (h':=hh) (g':=g) (d':=d) (t':=t) (ch:=[]) un hok bare (fun b z=>absurd z (by simp)),r,q⟩
end
def Binds (K:PySem.W.Frag) (fd:FuncData) (ps:List Str) (ds:List Value):Prop :=
 ∀ (s:Shared) (us:List Value),K.In s.heap→(us++ds).length=ps.length→BindsTo s fd ⟨us,[]⟩ (ps.zip (us++ds))
theorem Binds.all {K:PySem.W.Frag} {fd:FuncData} {ps:List Str} (h:∀ us:List Value,us.length=ps.length→bindArgs fd ⟨us,[]⟩=pure (ps.zip us)):Binds K fd ps []:=fun s us _ hl=>by
 rw [List.append_nil] at hl ⊢
 exact .of_eq (h us hl)
def Passes (CX:CXT) (X:Cx) (E:XK):Prop:=∀ (pins:List (Addr×Obj)) (σ:St) (H:Hp) (s:Shared) (e:Value) (s':Shared),Inv X pins σ H s→CX X.stack H s E e s'→X.xe e s'
section
variable {X:Cx} {CX:CXT} {k:Nat} {f C:Addr} {fd:FuncData} {ps:List Str} {sp:Sp} {dvs:List V} {ds:List Value} {E:XK} {x m:Str} {p pos apos:Pos} {e o:Expr} {es:List Expr} {ta:TE} {t:TA}
theorem run_fn {pins:List (Addr×Obj)} {σ:St} {H:Hp} {s:Shared} {Q:VK} {us:List Value} {vs:List V} (F:FnOk X.prog X.w X.K X.mg X.base CX k f fd ps sp) (hr:Room k X.A) (hb:Binds X.K fd ps ds) (hd:Vals dvs ds) (hx:Passes CX X E)
  (I:Inv X pins σ H s) (r:Vals vs us) (h:sp (vs++dvs) H Q E):wpAny (model X.prog X.w) X.A (call (.ref f) us) (EP X pins σ Q) X.xe s:=by
 have r2:Vals (vs++dvs) (us++ds):=r.append hd
 have hl:(us++ds).length=ps.length:=by rw [← r2.length]; exact F.len _ _ _ _ h
 refine wpAny_call (codeAny_mono (F.run X.A X.stack s H ⟨us,[]⟩ (us++ds) (vs++dvs) Q E hr I.env0 (hb s us I.kIn hl) r2 h) fun r s' hq=>?_)
 cases r with
 | error e=>exact hx pins σ H s e s' I hq
 | ok fl =>
  cases fl with
  | ret u=>exact I.after hq
  | next=>exact False.elim hq
  | brk=>exact False.elim hq
  | cont=>exact False.elim hq
end
section
variable {X:Cx} {CX:CXT} {k:Nat} {f C:Addr} {fd:FuncData} {ps ks:List Str} {sp:Sp} {E:XK} {x m:Str} {p pos apos kpos:Pos} {e o:Expr} {es:List Expr} {kws:List Keyword} {te ta:TE} {t tk:TA} {nm:Option Str}
variable {g:List Value→List Value→List Value} {gV:List V→List V→List V}
end
structure aq (N P:List Str) (sc:Scope):Prop where
 kind:sc.kind=.function
 co:sc.isCoroutine=false
 gen:sc.isGenerator=false
 nd:N.Nodup
 pre:N.take P.length=P
 par:∀ x∈P,sc.names.lookup x=some .local∨sc.names.lookup x=some .cell
 nofree:∀ y∈sc.names,y.2≠.free
theorem bindL_out {kindOf:Str→Option NameKind} {x:Str}:∀ {binds:List (Str×Value)} {m:Str→Option Value},(∀ v,(x,v)∉binds)→bindL kindOf binds m x=m x
 | [],_,_=>rfl
 | (n,v)::r,m,h=>by
  unfold bindL
  rw [bindL_out fun w hw=>h w (List.mem_cons_of_mem _ hw)]
  split
  ·
   have:x≠n:=by rintro rfl; exact h v List.mem_cons_self
   simp [this]
  ·
   rfl
theorem bindC_out {kindOf:Str→Option NameKind} {x:Str}:∀ {binds:List (Str×Value)} {m:Str→Option Value},(∀ v,(x,v)∉binds)→bindC kindOf binds m x=m x
 | [],_,_=>rfl
 | (n,v)::r,m,h=>by
  unfold bindC
  rw [bindC_out fun w hw=>h w (List.mem_cons_of_mem _ hw)]
  split
  ·
   rfl
  ·
   have:x≠n:=by rintro rfl; exact h v List.mem_cons_self
   simp [this]
theorem bindL_get {kindOf:Str→Option NameKind} {x:Str} {v:Value}:∀ {P:List Str} {vs:List Value} {i:Nat} {m:Str→Option Value},P.Nodup→P[i]?=some x→vs[i]?=some v→kindOf x=some .local →
  bindL kindOf (P.zip vs) m x=some v
 | [],_,_,_,_,h,_,_=>by simp at h
 | _::_,[],_,_,_,_,h,_=>by simp at h
 | p::P,w::vs,0,m,nd,h1,h2,hk=>by
  simp at h1 h2; subst h1; subst h2
  show bindL kindOf ((p,w)::P.zip vs) m p=_
  unfold bindL
  rw [bindL_out fun v hv=>(List.nodup_cons.mp nd).1 (List.of_mem_zip hv).1,if_pos hk]
  simp
 | p::P,w::vs,i+1,m,nd,h1,h2,hk=>by
  show bindL kindOf ((p,w)::P.zip vs) m x=_
  unfold bindL
  exact bindL_get (i:=i) (List.nodup_cons.mp nd).2 (by simpa using h1) (by simpa using h2) hk
theorem bindC_get {kindOf:Str→Option NameKind} {x:Str} {v:Value}:∀ {P:List Str} {vs:List Value} {i:Nat} {m:Str→Option Value},P.Nodup→P[i]?=some x→vs[i]?=some v→kindOf x≠some .local →
  bindC kindOf (P.zip vs) m x=some v
 | [],_,_,_,_,h,_,_=>by simp at h
 | _::_,[],_,_,_,_,h,_=>by simp at h
 | p::P,w::vs,0,m,nd,h1,h2,hk=>by
  simp at h1 h2; subst h1; subst h2
  show bindC kindOf ((p,w)::P.zip vs) m p=_
  unfold bindC
  rw [bindC_out fun v hv=>(List.nodup_cons.mp nd).1 (List.of_mem_zip hv).1,if_neg hk]
  simp
 | p::P,w::vs,i+1,m,nd,h1,h2,hk=>by
  show bindC kindOf ((p,w)::P.zip vs) m x=_
  unfold bindC
  exact bindC_get (i:=i) (List.nodup_cons.mp nd).2 (by simpa using h1) (by simpa using h2) hk
def start (N:List Str) (vs:List V):St:=vs.map some++List.replicate (N.length - vs.length) none
def cxOf (CX:CXT) (P:Program) (w:World) (K:PySem.W.Frag) (mg:Str→Option Value) (base:Heap) (N:List Str) (qual:Str) (scope:Scope) (f:Addr) (cd:Value) (A:Around) (outer:List Env) (s:Shared) (H:Hp) (E:XK):Cx where
 prog:=P
 w:=w
 K:=K
 mg:=mg
 base:=base
 A:=A.deeper (envOfC qual scope s.heap.objs.size f cd)
 N:=N
 s₀:=s
 H₀:=H
 env:=envOfC qual scope s.heap.objs.size f cd
 outer:=outer
 stack:=envOfC qual scope s.heap.objs.size f cd::outer
 ex:=[]
 calm:=true
 fn:=fun _=>true
 pn:=[]
 xe:=fun e s'=>wpAny (model P w) (A.deeper (envOfC qual scope s.heap.objs.size f cd)) (leaving (envOfC qual scope s.heap.objs.size f cd) e) (fun _ s''=>CX outer H s E e s'') (fun e' s''=>CX outer H s E e' s'') s'
theorem cell_has {sc:Scope} {n:Nat} {x:Str} (h:sc.names.lookup x=some .cell):∃ c,(cellsFrom n sc.names []).lookup x=some c:=by
 have q:=PySem.W.cellsFrom_some sc.names n [] (.inl h)
 exact Option.isSome_iff_exists.mp q
theorem inv_start {CX:CXT} {P:Program} {w:World} {K:PySem.W.Frag} {mg:Str→Option Value} {base:Heap} {N ps:List Str} {qual:Str} {scope:Scope} {f:Addr} {cd:Value} {A:Around} {outer:List Env} {s s1:Shared} {H:Hp} {E:XK} {us:List Value} {vs:List V}
  (S:aq N ps scope) (hd:A.handled=none) (e0:Env0 P w K mg base A outer s H) (hl:vs.length=ps.length) (r:Vals vs us)
  (x:InCallC s s.heap.objs.size (bindL (envOfC qual scope s.heap.objs.size f cd).kindOf (ps.zip us) fun _=>none) (cellsFrom (s.heap.objs.size+1) scope.names []) (bindC (envOfC qual scope s.heap.objs.size f cd).kindOf (ps.zip us) fun _=>none) s1) :
  Inv (cxOf CX P w K mg base N qual scope f cd A outer s H E) [] (start N vs) H s1:=by
 have hpl:ps.length≤N.length:=by have:=congrArg List.length S.pre; rw [List.length_take] at this; omega
 obtain ⟨h1,tk,rfl,hk⟩:=x.done
 have noA:∀ b:Addr,b∉(cxOf CX P w K mg base N qual scope f cd A outer s H E).ex:=fun b z=>absurd (show b∈([]:List Addr) from z) (by simp)
 refine ⟨⟨e0.mod,S.kind,rfl,rfl,Nat.le_refl _,fun y z c h1 h2=>?_,fun y hy=>?_,fun y c _ h=>?_,fun _=>hd,Around.frames_deeper e0.frames,.inr ⟨rfl,rfl⟩,fun b z=>absurd z (noA b),e0.bs,e0.bsz,fun b _ _=>noA b,fun b z=>absurd z (noA b),e0.funs,e0.frf⟩,
  rfl,e0.bare,Un.kept hk,⟨_,x.toInCall.ns,fun i y v h1 h2 h3=>?_⟩,fun y c h=>⟨_,x.cell y c h⟩,e0.hok.fresh (Nat.le_refl _),fun y c h=>?_,fun p hp=>absurd (show p∈([]:List (Addr×Obj)) from hp) (by simp),e0.hok.kept hk,?_⟩
 ·
  exact name_of_addr x.apart (PySem.mem_of_lookup h1) (PySem.mem_of_lookup h2)
 ·
  have hy:scope.names.lookup y=some .cell∨scope.names.lookup y=some .free:=hy
  rcases hy with hy | hy
  ·
   exact cell_has hy
  ·
   exact absurd rfl (S.nofree _ (PySem.mem_of_lookup hy))
 ·
  exact Nat.le_of_lt (x.above y c (PySem.mem_of_lookup h))
 ·
  have hi:i < vs.length:=by
   unfold start at h2
   by_cases hi:i < vs.length
   ·
    exact hi
   ·
    rw [List.getElem?_append_right (by simpa using hi)] at h2
    rw [List.getElem?_replicate] at h2
    split at h2 <;> cases h2
  have ha:vs[i]?=some v:=by
   unfold start at h2
   rw [List.getElem?_append_left (by simpa using hi),List.getElem?_map] at h2
   cases e:vs[i]? with
   | none=>rw [e] at h2; cases h2
   | some a=>rw [e] at h2; cases h2; rfl
  obtain ⟨u,hu,rv⟩:=r.get ha
  have hp:ps[i]?=some y:=by
   rw [← S.pre,List.getElem?_take_of_lt (by omega)]; exact h1
  have ndP:ps.Nodup:=by rw [← S.pre]; exact S.nd.sublist (List.take_sublist _ _)
  refine ⟨u,rv,?_⟩
  rcases S.par y (List.mem_of_getElem? hp) with k | k
  ·
   exact .inl ⟨k,bindL_get ndP hp hu k⟩
  ·
   obtain ⟨c,e⟩:=cell_has (n:=s.heap.objs.size+1) k
   refine .inr ⟨.inl k,c,e,?_⟩
   have q:=x.cell y c e
   rw [bindC_get ndP hp hu (by show scope.names.lookup y≠_; rw [k]; decide)] at q
   exact q
 ·
  exact e0.hok.fresh (Nat.le_of_lt (x.above y c (PySem.mem_of_lookup h)))
 ·
  unfold start
  show _=N.length
  rw [List.length_append,List.length_map,List.length_replicate]
  omega
theorem fn_of {CX:CXT} {P:Program} {w:World} {K:PySem.W.Frag} {mg:Str→Option Value} {base:Heap} {k:Nat} {f:Addr} {name qual:Str} {params:Arguments} {body:List Stmt} {scope:Scope} {dV kV doc pm cdv ct oc:Value} {an od:Option Addr}
  {osl:Array (Option Value)} {N ps:List Str} {sp:Sp} (lk:K.lookup f=some ⟨oc,od,.func (PySem.W.fnOf name qual params body scope dV kV doc pm an cdv ct),osl⟩) (hcd:PySem.W.codeIn K cdv qual=true) (S:aq N ps scope)
  (len:∀ vs H Q E,sp vs H Q E→vs.length=ps.length)
  (hbody:∀ (A:Around) (outer:List Env) (s:Shared) (H:Hp) (vs:List V) (Q:VK) (E:XK),Room k (A.deeper (envOfC qual scope s.heap.objs.size f cdv))→sp vs H Q E →
   ∃ t,PSs (cxOf CX P w K mg base N qual scope f cdv A outer s H E) body t∧t { nx:=fun _ H'=>Q .non H',rt:=Q } (start N vs) H) :
  FnOk P w K mg base CX (k+1) f (PySem.W.fnOf name qual params body scope dV kV doc pm an cdv ct) ps sp:=by
 refine ⟨len,fun A outer s H args us vs Q E hr e0 hb r hsp=>?_⟩
 have hl:=len _ _ _ _ hsp
 have KX:K.In s.heap:=e0.mod.kin.keeps fun b o e=>(e0.bs b o e).1
 have lim:s.heap.NoLimit:=e0.mod.nolimit.keeps fun b o e=>(e0.bs b o e).1
 have hkind:∀ y∈ps.zip us,scope.names.lookup y.1=some .local∨(scope.names.lookup y.1=some .cell∧((cellsFrom (s.heap.objs.size+1) scope.names []).lookup y.1).isSome=true):=fun ⟨n,v⟩ hy=>by
  rcases S.par n (List.of_mem_zip hy).1 with q | q
  ·
   exact .inl q
  ·
   exact .inr ⟨q,PySem.W.cellsFrom_some _ _ _ (.inl q)⟩
 refine codeAny_call_function hr.depth (KX _ _ lk) rfl S.co S.gen rfl (PySem.W.codeRec_of KX hcd) (hb _ _ _ _ ?_)
 refine wpAny_newFunctionEnv_cells S.kind hkind fun env he s1 x=>?_
 subst he
 refine ⟨lim.keeps x.toInCall.keep,codeAny_func ?_⟩
 obtain ⟨t,ht,hq⟩:=hbody A outer s H vs Q E (hr.deeper _) hsp
 have I:Inv (cxOf CX P w K mg base N qual scope f cdv A outer s H E) [] (start N vs) H s1:=inv_start S hr.hd e0 hl r x
 refine wpAny_mono (ht [] s1 (start N vs) H _ I hq) (fun fl s' hs=>?_) fun e s' hs=>hs
 have fin:∀ {σ':St} {H':Hp} {v:V} {u:Value},Inv (cxOf CX P w K mg base N qual scope f cdv A outer s H E) [] σ' H' s'→RelV v u→Q v H'→CE outer P w H s Q u s' :=
  fun {σ' H' v u} J rv q=>⟨v,H',J.os,J.bare,J.base,J.hok,rv,q⟩
 cases fl with
 | ret u =>
  obtain ⟨v,σ',H',J,rv,q⟩:=hs
  exact fin J rv q
 | next =>
  obtain ⟨σ',H',J,q⟩:=hs
  exact fin (v:=V.non) (u:=Value.none) J rfl q
 | brk =>
  obtain ⟨_,_,_,q⟩:=hs
  exact False.elim q
 | cont =>
  obtain ⟨_,_,_,q⟩:=hs
  exact False.elim q
end L2
namespace L2
open PySem PySem.Spec PyProof.Rows
section
variable {X:Cx} {x:Str} {p pos:Pos} {e:Expr} {es:List Expr} {t:TA} {id T:String} {r:List V→Hp→VK→Prop}
def tCB (r:List V→Hp→VK→Prop) (t:TA):TE:=fun σ H Q=>t σ H fun vs H1=>r vs H1 Q
theorem pe_callB (hc:CallR X (.builtin id) r) (hg:Gl X x) (hm:X.mg x=none) (hv:bootBuiltins x=some (.builtin id)) (ha:PA X (e::es) t) (hn:x≠"__name__":=by decide) (hdb:(x == ("__debug__" : Str))=false:=by decide)
  (he:starEach (e::es) X.env=(false,eval e X.env)::starEach es X.env:=by rfl) (hpl:(backTo pos (starEach es X.env)).any (·.1)=false:=by rfl):PE X (.Call (.Name x p) (e::es) [] pos) (tCB r t):=by
 intro pins s σ H Q I h
 refine wpAny_Call_Name_kw (ld_blt I hg hm hv ?_ hn hdb)
 exact PyProof.Rows.callWith_builtin1 (thn (ha pos pins s σ H _ I h) fun us s1 ⟨vs,H1,I1,r1,q1⟩=>hc pins s1 σ H1 vs us Q I1 r1 q1) he hpl
end
end L2
namespace HT
open PySem PyProof.Rows
section
open PySem.SeqAt
open PySem.AutoSeq1 (wpAny_loadPart')
open PySem.MeetsSeq PySem.MeetsSeq2 PySem.MeetsSeq3
end
section
variable {prog:Program} {w:World} {A:Around} {E:Value→Shared→Prop} {s:Shared}
def sIx (n d:Nat):Option Int→Nat
 | none=>d
 | some v=>if v < 0 then (v+(n:Int)).toNat else min v.toNat n
theorem sIx_le (n d:Nat) (hd:d≤n) (o:Option Int):sIx n d o≤n:=by
 cases o with
 | none=>exact hd
 | some v =>
  show (if v < 0 then (v+(n:Int)).toNat else min v.toNat n)≤n
  by_cases hv:v < 0
  ·
   rw [if_pos hv]; omega
  ·
   rw [if_neg hv]; exact Nat.min_le_right _ _
theorem clip_eq (v:Int) (n d:Nat):(if v < 0 then max (v+(n:Int)) 0 else min v (n:Int))=((sIx n d (some v):Nat):Int):=by
 show (if v < 0 then max (v+(n:Int)) 0 else min v (n:Int))=(((if v < 0 then (v+(n:Int)).toNat else min v.toNat n):Nat):Int)
 by_cases hv:v < 0
 ·
  simp only [if_pos hv]; omega
 ·
  simp only [if_neg hv]; omega
theorem adjust_gen (lo hi:Option Int) (n:Nat):Builtin.Slice.sliceAdjust lo hi 1 (n:Int)=(((sIx n 0 lo:Nat):Int),((sIx n n hi:Nat):Int)):=by
 have h1:¬ ((1:Int) < 0):=by omega
 unfold Builtin.Slice.sliceAdjust
 simp only [h1,if_false]
 refine Prod.ext ?_ ?_
 ·
  cases lo with
  | none=>rfl
  | some v=>exact clip_eq v n 0
 ·
  cases hi with
  | none=>rfl
  | some v=>exact clip_eq v n n
theorem places_gen (i j:Nat):Builtin.Slice.slicePlaces (i:Int) (j:Int) 1=j - i:=by
 unfold Builtin.Slice.slicePlaces
 have h1:(1:Int) > 0:=by omega
 simp only [h1,if_true,Int.ediv_one]
 split <;> omega
theorem slicePart_ {v:Value} {o:Option Int} {Q:Option Int→Shared→Prop} (p:IsPart v o) (h:Q o s):wpAny (model prog w) A (Builtin.Slice.slicePartIndex v) Q E s:=by
 cases p with
 | none=>exact slicePart_none h
 | int i t=>exact slicePart_int h
theorem sliceApplied_gen {sl:Addr} {vl vu:Value} {lo hi:Option Int} {n:Nat} {Q:Int×Int×Nat→Shared→Prop} (hs:s.heap.IsSliceOf sl vl vu .none) (pl:IsPart vl lo) (pu:IsPart vu hi)
  (h:Q (((sIx n 0 lo:Nat):Int),1,sIx n n hi - sIx n 0 lo) s):wpAny (model prog w) A (Builtin.Slice.sliceApplied (.ref sl) (pure (n:Int))) Q E s:=by
 obtain ⟨os,hos,hcs,hds⟩:=id hs
 unfold Builtin.Slice.sliceApplied Builtin.Slice.sliceFields
 refine wpAny_bind (wpAny_bind (wpAny_field hos hds (x:=vl) rfl (wpAny_bind (wpAny_field hos hds (x:=vu) rfl (wpAny_bind (wpAny_field hos hds (x:=.none) rfl (wpAny_pure ?_)))))))
 refine wpAny_bind (slicePart_none ?_)
 show wpAny _ _ (if ((1:Int) == 0)=true then _ else _) _ _ s
 rw [if_neg (by decide)]
 refine wpAny_bind (slicePart_ pl (wpAny_bind (slicePart_ pu (wpAny_bind (wpAny_pure ?_)))))
 show wpAny _ _ (match Builtin.Slice.sliceAdjust lo hi 1 (n:Int) with | (lo,hi)=>pure (lo,(1:Int),Builtin.Slice.slicePlaces lo hi 1)) _ _ s
 rw [adjust_gen lo hi n]
 show wpAny _ _ (pure (((sIx n 0 lo:Nat):Int),(1:Int),Builtin.Slice.slicePlaces ((sIx n 0 lo:Nat):Int) ((sIx n n hi:Nat):Int) 1)) _ _ s
 rw [places_gen]
 exact wpAny_pure h
theorem pick_gen (xs:Array Value) (i k:Nat):((List.range k).filterMap fun (m:Nat)=>xs[((i:Int)+(m:Int)*1).toNat]?).toArray=((xs.toList.drop i).take k).toArray:=by
 have e:(fun (m:Nat)=>xs[((i:Int)+(m:Int)*1).toNat]?)=fun m=>xs[i+m]?:=by
  funext m
  have:((i:Int)+(m:Int)*1).toNat=i+m:=by omega
  rw [this]
 rw [e]
 have:=pick_run xs i k
 rw [List.filterMap_map] at this
 have e2:((fun x=>xs[x]?) ∘ fun x=>i+x)=fun m=>xs[i+m]?:=rfl
 rw [e2] at this
 rw [this]
theorem getItem_tuple_cut {t sl:Addr} {items:Array Value} {vl vu:Value} {lo hi:Option Int} {Q:Value→Shared→Prop} (ht:IsTup s.heap t items) (hs:s.heap.IsSliceOf sl vl vu .none) (pl:IsPart vl lo) (pu:IsPart vu hi)
  (hw:¬ (sIx items.size 0 lo=0∧sIx items.size items.size hi=items.size))
  (h:Q (.ref s.heap.objs.size) { s with heap:=s.heap.push { cls:=.type "tuple",data:=.seq ((items.toList.drop (sIx items.size 0 lo)).take (sIx items.size items.size hi - sIx items.size 0 lo)).toArray } })
  (hsz:items.size≤sizeLine):wpAny (model prog w) A (getItem (.ref t) (.ref sl)) Q E s:=by
 have htake:sizeOk (.seq ((items.toList.drop (sIx items.size 0 lo)).take (sIx items.size items.size hi - sIx items.size 0 lo)).toArray):=by
  show ((items.toList.drop (sIx items.size 0 lo)).take (sIx items.size items.size hi - sIx items.size 0 lo)).toArray.size≤sizeLine
  rw [List.size_toArray,List.length_take,List.length_drop,Array.length_toList]
  omega
 have hj:sIx items.size items.size hi≤items.size:=sIx_le _ _ (Nat.le_refl _) hi
 obtain ⟨os,hos,hcs,hds⟩:=id hs
 have hTs:s.TypeIs (.ref sl) "slice":=⟨os,hos,hcs⟩
 unfold getItem
 try with_reducible refine wpAny_holding ?_
 first | refine wpAny_bind (wpAny_pure ?_) | skip
 refine wpAny_bind (wpAny_sequenceKey ht.typeIs (by decide) ?_)
 refine wpAny_bind (wpAny_callSpecial?_slot (name:=Str.ofString "__getitem__") ht.typeIs PyProof.Rows.slot_tuple_getitem
  (wpAny_call_entry PyProof.Rows.slot_tuple_getitem ht.typeIs entry_tuple_getitem ?_ (args_tuple_getitem _ _)))
 show wpAny _ _ (Builtin.Tuple.tupleItemsOf (.ref t) >>= _) _ _ s
 refine wpAny_bind (tupleItemsOf_ ht ?_)
 refine wpAny_bind (wpAny_typeOf hTs ?_)
 rw [if_pos (by decide)]
 refine wpAny_bind (sliceApplied_gen hs pl pu ?_)
 have hno:¬ ((((sIx items.size 0 lo:Nat):Int) == 0 && (1:Int) == 1 && (sIx items.size items.size hi - sIx items.size 0 lo) == items.size)=true):=by
  intro q
  rw [Bool.and_eq_true,Bool.and_eq_true] at q
  have q1:((sIx items.size 0 lo:Nat):Int)=0:=eq_of_beq q.1.1
  have q2:sIx items.size items.size hi - sIx items.size 0 lo=items.size:=eq_of_beq q.2
  exact hw ⟨by omega,by omega⟩
 show wpAny _ _ (if (((sIx items.size 0 lo:Nat):Int) == 0 && (1:Int) == 1 && (sIx items.size items.size hi - sIx items.size 0 lo) == items.size)=true then _ else _) _ _ s
 rw [if_neg hno,pick_gen]
 first
  | exact wpAny_bind (m:=Builtin.Tuple.tupleExact _) (wpAny_newObj_type (wpAny_pure ⟨_,rfl,wpAny_pure h⟩) htake)
  | exact wpAny_bind (m:=Builtin.Tuple.tupleExact _) (wpAny_newObj_type (wpAny_bind (wpAny_pure (wpAny_pure ⟨_,rfl,wpAny_pure h⟩))) htake)
  | exact wpAny_bind (wpAny_bind (m:=Builtin.Tuple.tupleExact _) (wpAny_newObj_type (wpAny_pure (wpAny_pure ⟨_,rfl,wpAny_pure h⟩)) htake))
  | exact wpAny_bind (wpAny_bind (m:=Builtin.Tuple.tupleExact _) (wpAny_newObj_type (wpAny_pure ⟨_,rfl,wpAny_pure h⟩) htake))
end
end HT
namespace L2
open PySem PySem.Spec PyProof.Rows
abbrev TO:=St→Hp→(Option Int→Hp→Prop)→Prop
def PO (X:Cx) (e:Option Expr) (t:TO):Prop :=
 ∀ (pins:List (Addr×Obj)) (s:Shared) (σ:St) (H:Hp) (Q:Option Int→Hp→Prop),Inv X pins σ H s→t σ H Q →
  wpAny (model X.prog X.w) X.A (evalPart e X.env) (fun u s'=>∃ o H',Inv X pins σ H' s'∧IsPart u o∧Q o H') X.xe s
def tNoPart:TO:=fun _ H Q=>Q none H
def tPart (t:TE):TO:=fun σ H Q=>t σ H fun x H1=>∃ i,x=.int i∧Q (some i) H1
section
variable {X:Cx} {e:Expr} {te:TE} {lo hi:Option Expr} {tl th:TO} {pos p2:Pos}
theorem po_none:PO X none tNoPart:=by
 intro pins s σ H Q I h
 rw [evalPart_none]
 exact wpAny_pure ⟨none,H,I,.none,h⟩
theorem po_some (h:PE X e te):PO X (some e) (tPart te):=by
 intro pins s σ H Q I hw
 rw [evalPart_some]
 refine thn (h pins s σ H _ I hw) fun u s1 ⟨x,H1,I1,r1,q1⟩=>?_
 obtain ⟨i,rfl,q⟩:=q1
 obtain ⟨t,rfl⟩:=r1
 exact ⟨some i,H1,I1,.int i t,q⟩
def SlR (X:Cx) (r:V→Option Int→Option Int→Hp→VK→Prop):Prop :=
 ∀ (pins:List (Addr×Obj)) (s:Shared) (σ:St) (H:Hp) (x:V) (v vl vu:Value) (lo hi:Option Int) (sl:Addr) (Q:VK),Inv X pins σ H s→RelV x v→s.heap.IsSliceOf sl vl vu .none→IsPart vl lo→IsPart vu hi→r x lo hi H Q →
  ∃ T id,typeLookup (.type T) "__getitem__"=pure (some (.builtin id))∧s.TypeIs v T∧wpAny (model X.prog X.w) X.A (getItem v (.ref sl)) (EP X pins σ Q) X.xe s
theorem SlR.or {r r':V→Option Int→Option Int→Hp→VK→Prop} (h:SlR X r) (h':SlR X r'):SlR X (fun x lo hi H Q=>r x lo hi H Q∨r' x lo hi H Q):=by
 intro pins s σ H x v vl vu lo hi sl Q I rx hs pl pu q
 rcases q with q | q
 ·
  exact h pins s σ H x v vl vu lo hi sl Q I rx hs pl pu q
 ·
  exact h' pins s σ H x v vl vu lo hi sl Q I rx hs pl pu q
def tSl (r:V→Option Int→Option Int→Hp→VK→Prop) (te:TE) (tl th:TO):TE:=fun σ H Q=>te σ H fun x H1=>tl σ H1 fun l H2=>th σ H2 fun u H3=>r x l u H3 Q
theorem pe_slice {r:V→Option Int→Option Int→Hp→VK→Prop} (hr:SlR X r) (he:PE X e te) (hl:PO X lo tl) (hu:PO X hi th):PE X (.Subscript e (.Slice lo hi none p2) pos) (tSl r te tl th):=by
 intro pins s σ H Q I h
 refine Subscript_ (thn (he pins s σ H _ I h) fun v s1 ⟨x,H1,I1,r1,q1⟩=>?_)
 refine wpAny_Slice (thn (hl pins s1 σ H1 _ I1 q1) fun vl s2 ⟨l,H2,I2,pl,q2⟩=>thn (hu pins s2 σ H2 _ I2 q2) fun vu s3 ⟨u,H3,I3,pu,q3⟩=>?_)
 rw [evalPart_none]
 refine wpAny_pure ?_
 have I4:Inv X pins σ H3 { s3 with heap:=s3.heap.push { cls:=.type "slice",data:=.fields #[vl,vu,.none] } }:=I3.kept (t':=s3.toks) fun b ob q=>Heap.get?_push_of_some _ q
 obtain ⟨T,id,hT,ht,hg⟩:=hr pins { s3 with heap:=s3.heap.push { cls:=.type "slice",data:=.fields #[vl,vu,.none] } } σ H3 x v vl vu l u s3.heap.objs.size Q I4 r1 (Heap.IsSliceOf.new ..) pl pu q3
 show wpAny (model X.prog X.w) X.A (subscriptTail e (.Slice lo hi none p2) v (.ref s3.heap.objs.size)) (EP X pins σ Q) X.xe { s3 with heap:=s3.heap.push { cls:=.type "slice",data:=.fields #[vl,vu,.none] } }
 exact tail_any (ops:=[.ref s3.heap.objs.size,v]) ht hT hg (by with_unfolding_all rfl)
def cutV (xs:List V) (lo hi:Option Int):List V:=(xs.drop (HT.sIx xs.length 0 lo)).take (HT.sIx xs.length xs.length hi - HT.sIx xs.length 0 lo)
theorem cutV_length (xs:List V) (lo hi:Option Int):(cutV xs lo hi).length≤xs.length:=by
 unfold cutV
 rw [List.length_take,List.length_drop]
 omega
def rSlT (K:PySem.W.Frag):V→Option Int→Option Int→Hp→VK→Prop:=fun x lo hi H Q=>∃ a xs,x=.ref a∧SqT K H a xs ∧
 ¬ (HT.sIx xs.length 0 lo=0∧HT.sIx xs.length xs.length hi=xs.length)∧∀ p,H p=none→Q (.ref p) (upd H p (.tup (cutV xs lo hi)))
theorem sl_tup:SlR X (rSlT X.K):=by
 intro pins s σ H x v vl vu lo hi sl Q I rx hs pl pu h
 obtain ⟨a,xs,rfl,hx,hw,q⟩:=h
 cases rx
 obtain ⟨its,r,ht,hz⟩:=I.tuple hx
 have hlen:its.toArray.size=xs.length:=by rw [List.size_toArray]; exact r.length.symm
 refine ⟨"tuple",_,PyProof.Rows.slot_tuple_getitem.lookup,ht.typeIs,?_⟩
 refine HT.getItem_tuple_cut ht hs pl pu (by rw [hlen]; exact hw) ?_ (by rw [hlen]; exact hz)
 rw [hlen]
 refine ⟨.ref s.heap.objs.size,_,I.laid (t':=s.toks) (o:=.tup (cutV xs lo hi)) (fun b ob q=>Heap.get?_push_of_some _ q) (Nat.le_refl _) ?_,rfl,q _ (I.hok.fresh (Nat.le_refl _))⟩
 exact ⟨Nat.le_trans (cutV_length xs lo hi) hz,_,(r.drop (HT.sIx xs.length 0 lo)).take (HT.sIx xs.length xs.length hi - HT.sIx xs.length 0 lo),IsTup.new _ _⟩
end
end L2
namespace L2
open PySem PySem.Spec PyProof.Rows
def ixN (n:Nat) (i:Int):Option Nat:=if 0≤i then (if i < n then some i.toNat else none) else if -(n:Int)≤i then some (i+n).toNat else none
def atI {α:Type} (xs:List α) (i:Int):Option α:=(ixN xs.length i).bind fun j=>xs[j]?
theorem ixN_seq {n:Nat} {i:Int} {j:Nat} (h:ixN n i=some j):seqIndex? i n=some j∧j < n∧-(n:Int)≤i∧i < n:=by
 unfold ixN at h
 by_cases h0:0≤i
 ·
  rw [if_pos h0] at h
  by_cases h1:i < n
  ·
   rw [if_pos h1] at h
   have e:i.toNat=j:=Option.some.inj h
   exact ⟨by rw [seqIndex_of h0 h1,e],by omega,by omega,h1⟩
  ·
   rw [if_neg h1] at h; cases h
 ·
  rw [if_neg h0] at h
  by_cases h1 : -(n:Int)≤i
  ·
   rw [if_pos h1] at h
   have e:(i+n).toNat=j:=Option.some.inj h
   exact ⟨by rw [seqIndex_neg (by omega) h1,e],by omega,h1,by omega⟩
  ·
   rw [if_neg h1] at h; cases h
theorem atI_get {α:Type} {xs:List α} {i:Int} {v:α} (h:atI xs i=some v):∃ j,seqIndex? i xs.length=some j∧xs[j]?=some v∧j < xs.length∧-(xs.length:Int)≤i∧i < xs.length:=by
 unfold atI at h
 cases e:ixN xs.length i with
 | none=>rw [e] at h; cases h
 | some j =>
  rw [e] at h
  obtain ⟨h1,h2,h3,h4⟩:=ixN_seq e
  exact ⟨j,h1,h,h2,h3,h4⟩
theorem ft {α:Type} {xs:List α} {j:Nat} {v:α} (h:xs[j]?=some v):atI xs (j:Int)=some v:=by
 have hj:j < xs.length:=(List.getElem?_eq_some_iff.mp h).1
 have e:ixN xs.length (j:Int)=some j:=by
  unfold ixN
  rw [if_pos (by omega),if_pos (by omega)]; simp
 unfold atI; rw [e]; exact h
def PlainIx (b:Expr):Prop:=∀ o i,subscripted b false o i=operate [o,i] (getItem o i)
def IxR (X:Cx) (r:R2):Prop :=
 ∀ (value slice:Expr) (pins:List (Addr×Obj)) (s:Shared) (σ:St) (H:Hp) (x y:V) (v u:Value) (Q:VK),Inv X pins σ H s→RelV x v→RelV y u→r x y H Q →
  subscripted slice false v u=operate [v,u] (getItem v u)→wpAny (model X.prog X.w) X.A (subscriptTail value slice v u) (EP X pins σ Q) X.xe s
def MtR (X:Cx) (id:String) (r:V→List V→Hp→VK→Prop):Prop :=
 ∀ (pins:List (Addr×Obj)) (s:Shared) (σ:St) (H:Hp) (x:V) (xs:List V) (v:Value) (us:List Value) (Q:VK),Inv X pins σ H s→RelV x v→Vals xs us→r x xs H Q →
  wpAny (model X.prog X.w) X.A (call (.builtin id) (v::us)) (EP X pins σ Q) X.xe s
section
variable {X:Cx} {a b:Expr} {ta tb:TE} {pos:Pos}
theorem IxR.or {r r':R2} (h:IxR X r) (h':IxR X r'):IxR X (fun x y H Q=>r x y H Q∨r' x y H Q):=by
 intro value slice pins s σ H x y v u Q I rx ry q hs
 rcases q with q | q
 ·
  exact h value slice pins s σ H x y v u Q I rx ry q hs
 ·
  exact h' value slice pins s σ H x y v u Q I rx ry q hs
theorem MtR.or {id:String} {r r':V→List V→Hp→VK→Prop} (h:MtR X id r) (h':MtR X id r'):MtR X id (fun x xs H Q=>r x xs H Q∨r' x xs H Q):=by
 intro pins s σ H x xs v us Q I rx rs q
 rcases q with q | q
 ·
  exact h pins s σ H x xs v us Q I rx rs q
 ·
  exact h' pins s σ H x xs v us Q I rx rs q
theorem pe_ix {r:R2} (hr:IxR X r) (ha:PE X a ta) (hb:PE X b tb) (hs:PlainIx b):PE X (.Subscript a b pos) (tOp r ta tb):=by
 intro pins s σ H Q I h
 exact Subscript_ (binT ha hb I h fun v u s2 x y H2 I2 rx ry q=>hr a b pins s2 σ H2 x y v u Q I2 rx ry q (hs _ _))
def rIxL (K:PySem.W.Frag):R2:=fun x y H Q=>∃ p xs i v,x=.ref p∧y=.int i∧SqL K H p xs∧atI xs i=some v∧Q v H
def rIxT (K:PySem.W.Frag):R2:=fun x y H Q=>∃ p xs i v,x=.ref p∧y=.int i∧SqT K H p xs∧atI xs i=some v∧Q v H
def rIxS:R2:=fun x y H Q=>∃ z i c,x=.str z∧y=.int i∧z.length≤sizeLine∧atI z.cps.toList i=some c∧Q (.str ⟨#[c]⟩) H
theorem ix_list:IxR X (rIxL X.K):=by
 intro value slice pins s σ H x y v u Q I rx ry h hs
 obtain ⟨p,xs,i,z,rfl,rfl,hq,he,q⟩:=h
 cases rx
 obtain ⟨t,rfl⟩:=ry
 obtain ⟨its,r,pl,hz⟩:=I.list hq
 obtain ⟨j,h1,h2,h3,h4,h5⟩:=atI_get he
 obtain ⟨w,ew,rw'⟩:=r.get h2
 have hl:=r.length
 have hn:=line63
 have fin:EP X pins σ Q w s:=⟨z,H,I,rw',q⟩
 by_cases h0:0≤i
 ·
  have hj:i.toNat=j:=by
   rw [seqIndex_of h0 h5] at h1
   exact Option.some.inj h1
  exact item_listR pl.isList h0 (by omega) (by rw [hj]; simpa using ew) fin hs
 ·
  have hj:(i+(its.toArray.size:Int)).toNat=j:=by
   rw [seqIndex_neg (by omega) h4] at h1
   rw [List.size_toArray,← hl]
   exact Option.some.inj h1
  exact subscriptTail_builtinR (x:=w) pl.isList.typeIs slot_list_getitem.lookup
   (wpAny_getItem_list_neg (Q:=fun r s'=>r=w∧EP X pins σ Q r s') pl.isList (by omega) (by rw [List.size_toArray] <;> omega) (by omega) (by rw [hj]; simpa using ew) ⟨rfl,fin⟩) hs
theorem ix_tup:IxR X (rIxT X.K):=by
 intro value slice pins s σ H x y v u Q I rx ry h hs
 obtain ⟨p,xs,i,z,rfl,rfl,hq,he,q⟩:=h
 cases rx
 obtain ⟨t,rfl⟩:=ry
 obtain ⟨its,r,pl,hz⟩:=I.tuple hq
 obtain ⟨j,h1,h2,h3,h4,h5⟩:=atI_get he
 obtain ⟨w,ew,rw'⟩:=r.get h2
 have hl:=r.length
 have hn:=line63
 have fin:EP X pins σ Q w s:=⟨z,H,I,rw',q⟩
 exact subscriptTail_builtinR (x:=w) pl.typeIs slot_tuple_getitem.lookup
  (getItem_tuple (j:=j) (Q:=fun r s'=>r=w∧EP X pins σ Q r s') pl (by omega) (by omega) (by rw [List.size_toArray,← hl]; exact h1) (by simpa using ew) ⟨rfl,fin⟩) hs
theorem ix_str:IxR X rIxS:=by
 intro value slice pins s σ H x y v u Q I rx ry h hs
 obtain ⟨z,i,c,rfl,rfl,hz,he,q⟩:=h
 obtain ⟨t,rfl⟩:=rx
 obtain ⟨t',rfl⟩:=ry
 obtain ⟨j,h1,h2,h3,h4,h5⟩:=atI_get he
 have hl:z.cps.toList.length=z.length:=by simp [Str.length]
 rw [hl] at h1 h4 h5
 have hn:=line63
 exact tail_any (typeIs_str s z t) slot_str_getitem.lookup (getItem_str (c:=c) (by
  have e1:decide (i < -(2 ^ 63:Int))=false:=decide_eq_false (by omega)
  have e2:decide (i≥2 ^ 63)=false:=decide_eq_false (by omega)
  rw [e1,e2,Bool.or_false]) (by rw [h1]; simpa using h2) ⟨.str ⟨#[c]⟩,H,I.tok _,⟨_,rfl⟩,q⟩) hs
theorem mapSeq_set (its:List Value) (n j:Nat) (u:Value):Obj.mapSeq (·.setIfInBounds j u) { cls:=.type "list",data:=.seq its.toArray n }={ cls:=.type "list",data:=.seq (its.set j u).toArray n }:=by
 simp [Obj.mapSeq]
theorem Inv.lst {pins:List (Addr×Obj)} {σ:St} {H:Hp} {s:Shared} {p:Addr} {xs:List V} (I:Inv X pins σ H s) (h:H p=some (.lst xs)) :
  ∃ (its:List Value) (n:Nat),Vals xs its∧s.heap.get? p=some { cls:=.type "list",data:=.seq its.toArray n }∧xs.length≤sizeLine:=by
 obtain ⟨z,its,n,r,e⟩:=I.hok p _ h
 exact ⟨its,n,r,e,z⟩
theorem Inv.lstUpd {pins:List (Addr×Obj)} {σ:St} {H:Hp} {s:Shared} {p:Addr} {xs ys:List V} {its its':List Value} {n n':Nat} {f:Obj→Obj} (I:Inv X pins σ H s) (h:H p=some (.lst xs))
  (ho:s.heap.get? p=some { cls:=.type "list",data:=.seq its.toArray n }) (hf:f { cls:=.type "list",data:=.seq its.toArray n }={ cls:=.type "list",data:=.seq its'.toArray n' }) (r:Vals ys its') (hz:ys.length≤sizeLine) (t:Nat) :
  Inv X pins σ (upd H p (.lst ys)) { s with heap:=s.heap.update p f,toks:=t }:=by
 have e:(s.heap.update p f).get? p=some { cls:=.type "list",data:=.seq its'.toArray n' }:=by
  rw [Heap.get?_update_self f ho (by rw [hf] <;> rfl),hf]
 refine I.write (x:=p) (e:=p) (by rw [h]; trivial) (.inl rfl) (fun b u hb q=>(Heap.get?_update_other _ _ (Ne.symm hb)).trans q) ⟨_,e⟩ ?_
 exact ⟨hz,its',n',r,e⟩
def rSetL:V→V→V→Hp→(Hp→Prop)→Prop:=fun o i v H Q=>∃ p xs k j,o=.ref p∧i=.int k∧H p=some (.lst xs)∧ixN xs.length k=some j∧Q (upd H p (.lst (xs.set j v)))
theorem set_list:PSet X rSetL:=by
 intro pins s σ H o i v ov iv u Q I ro ri rv h
 obtain ⟨p,xs,k,j,rfl,rfl,hp,hj,q⟩:=h
 cases ro
 obtain ⟨t,rfl⟩:=ri
 obtain ⟨its,n,r,ho,hz⟩:=I.lst hp
 obtain ⟨h1,h2,h3,h4⟩:=ixN_seq hj
 have hl:=r.length
 have hn:=line63
 have I':Inv X pins σ (upd H p (.lst (xs.set j v))) { s with heap:=s.heap.update p (Obj.mapSeq (·.setIfInBounds j u)) } :=
  I.lstUpd hp ho (mapSeq_set its n j u) (r.set rv j) (by rw [List.length_set]; exact hz) s.toks
 by_cases h0:0≤k
 ·
  have hk:k.toNat=j:=by
   rw [seqIndex_of h0 h4] at h1
   exact Option.some.inj h1
  exact PySem.W.ki_setAt ho h0 (by omega) (by rw [List.size_toArray,← hl]; exact h4) (by rw [hk]; exact ⟨_,I',q⟩)
 ·
  have hk:(k+(its.toArray.size:Int)).toNat=j:=by
   rw [seqIndex_neg (by omega) h3] at h1
   rw [List.size_toArray,← hl]
   exact Option.some.inj h1
  exact PySem.W.ki_setBack ho (by omega) (by rw [List.size_toArray,← hl]; exact h3) (by omega) (by rw [hk]; exact ⟨_,I',q⟩)
theorem slice_bounds (lo hi:Option Int) (n:Nat):(sliceBounds lo hi none n).1=((HT.sIx n 0 lo:Nat):Int)∧(sliceBounds lo hi none n).2.1=((HT.sIx n n hi:Nat):Int)∧(sliceBounds lo hi none n).2.2=1:=by
 refine ⟨?_,?_,rfl⟩
 ·
  cases lo with
  | none=>simp [sliceBounds,HT.sIx]
  | some i =>
   simp only [sliceBounds,HT.sIx,Option.getD_none,show (1:Int) > 0 by decide,if_true]
   by_cases h:i < 0
   ·
    simp only [h,if_true] <;> omega
   ·
    simp only [h,if_false] <;> omega
 ·
  cases hi with
  | none=>simp [sliceBounds,HT.sIx]
  | some i =>
   simp only [sliceBounds,HT.sIx,Option.getD_none,show (1:Int) > 0 by decide,if_true]
   by_cases h:i < 0
   ·
    simp only [h,if_true] <;> omega
   ·
    simp only [h,if_false] <;> omega
theorem slicePick_cut (its:List Value) (lo hi:Option Int):slicePick its.toArray lo hi none=((its.drop (HT.sIx its.length 0 lo)).take (HT.sIx its.length its.length hi - HT.sIx its.length 0 lo)).toArray:=by
 obtain ⟨h1,h2,h3⟩:=slice_bounds lo hi its.toArray.size
 unfold slicePick
 rw [h1,h2,h3]
 simp only [sliceRange_one,pick_run,List.size_toArray] <;> rfl
def rSlL (K:PySem.W.Frag):V→Option Int→Option Int→Hp→VK→Prop:=fun x lo hi H Q=>∃ a xs,x=.ref a∧SqL K H a xs∧∀ p,H p=none→Q (.ref p) (upd H p (.lst (cutV xs lo hi)))
theorem sl_list:SlR X (rSlL X.K):=by
 intro pins s σ H x v vl vu lo hi sl Q I rx hs pl pu h
 obtain ⟨a,xs,rfl,hx,q⟩:=h
 cases rx
 obtain ⟨its,r,ht,hz⟩:=I.list hx
 have hlen:=r.length
 refine ⟨"list",_,slot_list_getitem.lookup,ht.isList.typeIs,?_⟩
 refine wpAny_getItem_list_slice ht.isList hs pl pu .none (by simp) ?_ (by rw [List.size_toArray] <;> omega)
 rw [slicePick_cut,← hlen]
 refine ⟨.ref s.heap.objs.size,_,I.laid (t':=s.toks) (o:=.lst (cutV xs lo hi)) (fun b ob q=>Heap.get?_push_of_some _ q) (Nat.le_refl _) ?_,rfl,q _ (I.hok.fresh (Nat.le_refl _))⟩
 exact ⟨Nat.le_trans (cutV_length xs lo hi) hz,_,0,(r.drop (HT.sIx xs.length 0 lo)).take (HT.sIx xs.length xs.length hi - HT.sIx xs.length 0 lo),Heap.get?_push_size _ rfl⟩
def flatV:V→Bool
 | .non=>true
 | .bl _=>true
 | .int _=>true
 | .str _=>true
 | _=>false
def eqV:V→V→Bool
 | .non,.non=>true
 | .bl a,.bl b=>a == b
 | .bl a,.int b=>(if a then 1 else 0) == b
 | .int a,.bl b=>a == (if b then 1 else 0)
 | .int a,.int b=>a == b
 | .str a,.str b=>a == b
 | _,_=>false
theorem eqAt_V {A:Around} {s:Shared} {y x:V} {u v:Value} (ry:RelV y u) (rx:RelV x v) (fy:flatV y=true) (fx:flatV x=true):SeqAt.EqAt A s u v (eqV y x):=by
 cases y with
 | non =>
  cases ry
  cases x with
  | non=>cases rx; exact SeqAt.EqAt.same _
  | bl b=>cases rx; exact SeqAt.EqAt.none_bool b
  | int b=>obtain ⟨t,rfl⟩:=rx; exact SeqAt.EqAt.none_int b t
  | str b=>obtain ⟨t,rfl⟩:=rx; exact SeqAt.EqAt.none_str b t
  | _=>exact absurd (show false=true from fx) Bool.false_ne_true
 | bl a =>
  cases ry
  cases x with
  | non=>cases rx; exact SeqAt.EqAt.bool_none a
  | bl b=>cases rx; exact SeqAt.EqAt.bool_bool a b
  | int b=>obtain ⟨t,rfl⟩:=rx; exact SeqAt.EqAt.bool_int a b t
  | str b=>obtain ⟨t,rfl⟩:=rx; exact SeqAt.EqAt.bool_str a b t
  | _=>exact absurd (show false=true from fx) Bool.false_ne_true
 | int a =>
  obtain ⟨t',rfl⟩:=ry
  cases x with
  | non=>cases rx; exact SeqAt.EqAt.int_none a t'
  | bl b=>cases rx; exact SeqAt.EqAt.int_bool a t' b
  | int b=>obtain ⟨t,rfl⟩:=rx; exact SeqAt.EqAt.int_int a t' b t
  | str b=>obtain ⟨t,rfl⟩:=rx; exact SeqAt.EqAt.int_str a t' b t
  | _=>exact absurd (show false=true from fx) Bool.false_ne_true
 | str a =>
  obtain ⟨t',rfl⟩:=ry
  cases x with
  | non=>cases rx; exact SeqAt.EqAt.str_none a t'
  | bl b=>cases rx; exact SeqAt.EqAt.str_bool a t' b
  | int b=>obtain ⟨t,rfl⟩:=rx; exact SeqAt.EqAt.str_int a t' b t
  | str b=>obtain ⟨t,rfl⟩:=rx; exact SeqAt.EqAt.str_str a t' b t
  | _=>exact absurd (show false=true from fx) Bool.false_ne_true
 | _=>exact absurd (show false=true from fy) Bool.false_ne_true
def eqU (x:V) (u:Value):Bool:=match u with
 | .none=>eqV .non x
 | .bool b=>eqV (.bl b) x
 | .int i _=>eqV (.int i) x
 | .str z _=>eqV (.str z) x
 | _=>false
theorem eqU_of {x y:V} {u:Value} (r:RelV y u) (f:flatV y=true):eqU x u=eqV y x:=by
 cases y with
 | non=>cases r; rfl
 | bl b=>cases r; rfl
 | int i=>obtain ⟨t,rfl⟩:=r; rfl
 | str z=>obtain ⟨t,rfl⟩:=r; rfl
 | _=>exact absurd (show false=true from f) Bool.false_ne_true
theorem any_eqU {x:V}:∀ {xs:List V} {us:List Value},Vals xs us→xs.all flatV=true→us.any (eqU x)=xs.any fun y=>eqV y x
 | _,_,.nil,_=>rfl
 | y::xs,u::us,.cons r t,f=>by
  rw [List.all_cons,Bool.and_eq_true] at f
  rw [List.any_cons,List.any_cons,eqU_of r f.1,any_eqU t f.2]
theorem mem_eqAt {A:Around} {s:Shared} {x:V} {v:Value} (rx:RelV x v) (fx:flatV x=true):∀ {xs:List V} {us:List Value},Vals xs us→xs.all flatV=true→∀ u∈us,SeqAt.EqAt A s u v (eqU x u)
 | _,_,.nil,_=>fun u hu=>by cases hu
 | y::xs,u::us,.cons r t,f=>fun u' hu=>by
  rw [List.all_cons,Bool.and_eq_true] at f
  rcases List.mem_cons.mp hu with rfl | hu
  ·
   rw [eqU_of r f.1]; exact eqAt_V r rx f.1 fx
  ·
   exact mem_eqAt rx fx t f.2 u' hu
def inV (x:V) (xs:List V):Bool:=xs.any fun y=>eqV y x
def rIn (K:PySem.W.Frag) (neg:Bool):R2:=fun x y H Q=>∃ p xs,y=.ref p∧(SqL K H p xs∨SqT K H p xs)∧flatV x=true∧xs.all flatV=true∧Q (.bl (if neg then !inV x xs else inV x xs)) H
theorem op_in_seq:OpR X (compareOp .In) (rIn X.K false):=by
 intro pins s σ H x y v u Q I rx ry h
 obtain ⟨p,xs,rfl,hq,fx,fs,q⟩:=h
 cases ry
 rcases hq with hq | hq
 ·
  obtain ⟨its,r,pl,hz⟩:=I.list hq
  refine SeqAt.in_listAt (eqU x) pl.isList (fun w hw=>mem_eqAt rx fx r fs w (by simpa using hw)) ⟨.bl _,H,I,rfl,?_⟩
  rw [show its.toArray.any (eqU x)=its.any (eqU x) by simp,any_eqU r fs]
  exact q
 ·
  obtain ⟨its,r,pl,hz⟩:=I.tuple hq
  refine SeqAt.in_tupleAt (eqU x) pl (fun w hw=>mem_eqAt rx fx r fs w (by simpa using hw)) ⟨.bl _,H,I,rfl,?_⟩
  rw [show its.toArray.any (eqU x)=its.any (eqU x) by simp,any_eqU r fs]
  exact q
theorem call_len_seq:CallR X (.builtin "len") (fun xs H Q=>∃ p ys,xs=[.ref p]∧(SqL X.K H p ys∨SqT X.K H p ys)∧Q (.int ys.length) H):=by
 intro pins s σ H xs us Q I r h
 obtain ⟨p,ys,rfl,hq,q⟩:=h
 obtain ⟨u,rfl,rx⟩:=vals1 r
 cases rx
 have hn:=line63
 rcases hq with hq | hq
 ·
  obtain ⟨its,r',pl,hz⟩:=I.list hq
  have hlen:=r'.length
  exact Calls.call_len_list pl.isList (by simp only [List.size_toArray] <;> omega) ⟨.int ys.length,H,I.tok _,⟨s.toks+1,by rw [List.size_toArray,hlen]⟩,q⟩
 ·
  obtain ⟨its,r',pl,hz⟩:=I.tuple hq
  have hlen:=r'.length
  exact len_tuple pl (by simp only [List.size_toArray] <;> omega) ⟨.int ys.length,H,I.tok _,⟨s.toks+1,by rw [List.size_toArray,hlen]⟩,q⟩
theorem call_len_str:CallR X (.builtin "len") (fun xs H Q=>∃ z,xs=[.str z]∧z.length≤sizeLine∧Q (.int z.length) H):=by
 intro pins s σ H xs us Q I r h
 obtain ⟨z,rfl,hz,q⟩:=h
 obtain ⟨u,rfl,t,rfl⟩:=vals1 r
 have hn:=line63
 exact len_str (by omega) ⟨.int z.length,H,I.tok _,⟨_,rfl⟩,q⟩
theorem CallR.or {f:Value} {r r':List V→Hp→VK→Prop} (h:CallR X f r) (h':CallR X f r'):CallR X f (fun xs H Q=>r xs H Q∨r' xs H Q):=by
 intro pins s σ H xs us Q I rs q
 rcases q with q | q
 ·
  exact h pins s σ H xs us Q I rs q
 ·
  exact h' pins s σ H xs us Q I rs q
theorem call_list_of:CallR X (.type "list") (fun xs H Q=>∃ p ys,xs=[.ref p]∧(SqL X.K H p ys∨SqT X.K H p ys)∧∀ l,H l=none→Q (.ref l) (upd H l (.lst ys))):=by
 intro pins s σ H xs us Q I r h
 obtain ⟨p,ys,rfl,hq,q⟩:=h
 obtain ⟨u,rfl,rx⟩:=vals1 r
 cases rx
 have fin:∀ (its:List Value),Vals ys its→ys.length≤sizeLine→∀ (h':Heap) (c':Nat),(∀ b o',s.heap.get? b=some o'→h'.get? b=some o') →
   h'.get? s.heap.objs.size=some { cls:=.type "list",dict:=none,data:=.seq its.toArray c',slots:=#[] }→EP X pins σ Q (.ref s.heap.objs.size) { s with heap:=h' }:=fun its r' hz h' c' kp e =>
  ⟨.ref s.heap.objs.size,_,I.laid (t':=s.toks) kp (Nat.le_refl _) (show ObjOk X.prog X.w _ h' _ (.lst ys) from ⟨hz,its,c',r',e⟩),rfl,q _ (I.hok.fresh (Nat.le_refl _))⟩
 rcases hq with hq | hq
 ·
  obtain ⟨its,r',pl,hz⟩:=I.list hq
  have hlen:=r'.length
  obtain ⟨o,ho,hc,n,hd⟩:=pl.isList
  exact call_list_seq p (.inl rfl) ho hc hd (fun h' c' kp e=>fin its r' hz h' c' kp e) (by simp only [List.size_toArray] <;> omega)
 ·
  obtain ⟨its,r',pl,hz⟩:=I.tuple hq
  have hlen:=r'.length
  obtain ⟨o,ho,hc,n,hd⟩:=pl
  exact call_list_seq p (.inr rfl) ho hc hd (fun h' c' kp e=>fin its r' hz h' c' kp e) (by simp only [List.size_toArray] <;> omega)
def tyV (K:PySem.W.Frag) (T:String) (x:V) (H:Hp):Prop:=match x with
 | .str _=>T="str"
 | .int _=>T="int"
 | .ref p=>(T="list"∧∃ xs,SqL K H p xs)∨(T="tuple"∧∃ o,K.lookup p=some o∧o.cls=.type "tuple"∧o.dict=none) ∨
   (T="dict"∧((∃ kvs,H p=some (.dK kvs))∨∃ kvs,H p=some (.dT kvs)))∨(T="set"∧∃ S n,H p=some (.set S n))
 | _=>False
theorem tyV_is {pins:List (Addr×Obj)} {σ:St} {H:Hp} {s:Shared} {T:String} {x:V} {v:Value} (I:Inv X pins σ H s) (r:RelV x v) (ty:tyV X.K T x H) :
  s.TypeIs v T∧∀ a,v=.ref a→∃ ob,s.heap.get? a=some ob∧ob.dict=none:=by
 cases x with
 | str z =>
  obtain ⟨t,rfl⟩:=r
  cases (show T="str" from ty)
  exact ⟨typeIs_str s z t,fun _ e=>nomatch e⟩
 | int i =>
  obtain ⟨t,rfl⟩:=r
  cases (show T="int" from ty)
  exact ⟨typeIs_int s i t,fun _ e=>nomatch e⟩
 | ref p =>
  cases r
  rcases ty with ⟨rfl,xs,hq⟩ | ⟨rfl,o,hk,hc,hd⟩ | ⟨rfl,hk⟩ | ⟨rfl,S,n,hk⟩
  ·
   obtain ⟨its,_,pl,_⟩:=I.list hq
   refine ⟨pl.isList.typeIs,fun a e=>?_⟩
   cases e
   obtain ⟨o,n,e,c,hd,_⟩:=pl
   exact ⟨o,e,hd⟩
  ·
   refine ⟨⟨o,I.kIn p o hk,hc⟩,fun a e=>?_⟩
   cases e
   exact ⟨o,I.kIn _ o hk,hd⟩
  ·
   have z:∃ o,s.heap.get? p=some o∧o.ExactDict:=by
    rcases hk with ⟨kvs,hk⟩ | ⟨kvs,hk⟩
    ·
     obtain ⟨_,_,_,_,o,_,_,e,ex,_⟩:=I.hok p _ hk
     exact ⟨o,e,ex⟩
    ·
     obtain ⟨_,_,_,_,o,_,_,e,ex,_⟩:=I.hok p _ hk
     exact ⟨o,e,ex⟩
   obtain ⟨o,e,ex⟩:=z
   refine ⟨⟨o,e,ex.1⟩,fun a e2=>?_⟩
   cases e2
   exact ⟨o,e,ex.2.1⟩
  ·
   obtain ⟨o,_,_,_,e,ex,_⟩:=I.hok p _ hk
   refine ⟨⟨o,e,ex.1⟩,fun a e2=>?_⟩
   cases e2
   exact ⟨o,e,ex.2.1⟩
 | _=>exact False.elim ty
def tBM0 (K:PySem.W.Frag) (T:String) (r:V→List V→Hp→VK→Prop) (to:TE):TE:=fun σ H Q=>to σ H fun x H1=>tyV K T x H1∧r x [] H1 Q
def tBM (K:PySem.W.Frag) (T:String) (r:V→List V→Hp→VK→Prop) (to:TE) (t:TA):TE:=fun σ H Q=>to σ H fun x H1=>tyV K T x H1∧t σ H1 fun xs H2=>r x xs H2 Q
variable {o e:Expr} {es:List Expr} {to:TE} {t:TA} {name:Str} {apos cpos:Pos} {T id:String} {r:V→List V→Hp→VK→Prop}
theorem pe_bm0 (pa:PlainAttrs T) (slot:Slot T name id) (hty:typeOf (.builtin id)=pure (.type "method_descriptor")) (hm:MtR X id r) (ho:PE X o to)
  (hbase:attributeBase o name X.env (eval o X.env)=eval o X.env:=by rfl) (hline:(apos.endLine == cpos.line)=true:=by rfl):PE X (.Call (.Attribute o name apos) [] [] cpos) (tBM0 X.K T r to):=by
 intro pins s σ H Q I h
 refine wpAny_Call_method0_late hbase hline (thn (ho pins s σ H _ I h) fun v s1 ⟨x,H1,I1,r1,ty,q1⟩=>?_)
 obtain ⟨h1,h2⟩:=tyV_is I1 r1 ty
 exact ⟨T,id,pa,slot,hty,h1,h2,Calls.callWith_builtin rfl (PySem.evalArgs_none (hm pins s1 σ H1 x [] v [] Q I1 r1 .nil q1))⟩
theorem pe_bm (pa:PlainAttrs T) (slot:Slot T name id) (hty:typeOf (.builtin id)=pure (.type "method_descriptor")) (hm:MtR X id r) (ho:PE X o to) (ha:PA X (e::es) t)
  (hbase:attributeBase o name X.env (eval o X.env)=eval o X.env:=by rfl)
  (hfew:((backTo cpos (starEach (e::es) X.env)).all (fun x=>!x.1) && (backToKw cpos (keywordEach [] X.env)).all (fun x=>x.1.isSome)
   && decide ((e::es).length+([]:List Keyword).length+(if ([]:List Keyword).isEmpty then 0 else 1) < 30))=true:=by rfl)
  (hline:(apos.endLine == cpos.line)=true:=by rfl) (hs:starEach (e::es) X.env=(false,eval e X.env)::starEach es X.env:=by rfl) (hplain:(backTo cpos (starEach es X.env)).any (·.1)=false:=by rfl) :
  PE X (.Call (.Attribute o name apos) (e::es) [] cpos) (tBM X.K T r to t):=by
 intro pins s σ H Q I h
 refine wpAny_Call_method_late hbase hfew hline rfl (thn (ho pins s σ H _ I h) fun v s1 ⟨x,H1,I1,r1,ty,q1⟩=>?_)
 obtain ⟨h1,h2⟩:=tyV_is I1 r1 ty
 refine ⟨T,id,pa,slot,hty,h1,h2,?_⟩
 have hA:=ha cpos pins s1 σ H1 _ I1 q1
 rw [hs] at hA ⊢
 refine Calls.callWith_builtin (by show (false || (backTo cpos (starEach es X.env)).any (·.1))=false; rw [hplain] <;> rfl) (Calls.evalArgs_plain ?_)
 exact thn hA fun us s2 ⟨vs,H2,I2,r2,q2⟩=>hm pins s2 σ H2 x vs v us Q I2 r1 r2 q2
/- xs.append(e),list.index on a module's tuple .. are MtR facts of 06m -/
end
end L2
namespace L2
open PySem PySem.Spec PyProof.Rows
def MtM (X:Cx) (id:String) (r:V→List V→Hp→VK→Prop):Prop :=
 ∀ (pins:List (Addr×Obj)) (s:Shared) (σ:St) (H:Hp) (x:V) (xs:List V) (v:Value) (us:List Value) (Q:VK),Inv X pins σ H s→RelV x v→Vals xs us→r x xs H Q →
  wpAny (model X.prog X.w) X.A (call (.builtin id) (v::us)) (EP X pins σ Q) X.xe s
theorem Vals.one:∀ {x:V} {us:List Value},Vals [x] us→∃ u,us=[u]∧RelV x u
 | _,_,.cons r .nil=>⟨_,rfl,r⟩
theorem Vals.two:∀ {x y:V} {us:List Value},Vals [x,y] us→∃ u v,us=[u,v]∧RelV x u∧RelV y v
 | _,_,_,.cons r (.cons q .nil)=>⟨_,_,rfl,r,q⟩
theorem Vals.zero:∀ {us:List Value},Vals [] us→us=[]
 | _,.nil=>rfl
theorem Vals.dropLast {xs:List V} {us:List Value} (h:Vals xs us):Vals xs.dropLast us.dropLast:=by
 induction h with
 | nil=>exact .nil
 | cons r t ih =>
  cases t with
  | nil=>exact .nil
  | cons q t'=>exact .cons r ih
theorem Vals.eraseIdx:∀ {xs:List V} {us:List Value} (i:Nat),Vals xs us→Vals (xs.eraseIdx i) (us.eraseIdx i)
 | _,_,_,.nil=>.nil
 | _,_,0,.cons _ t=>t
 | _,_,i+1,.cons r t=>.cons r (Vals.eraseIdx i t)
theorem Vals.reverse {xs:List V} {us:List Value} (h:Vals xs us):Vals xs.reverse us.reverse:=by
 induction h with
 | nil=>exact .nil
 | cons r t ih=>rw [List.reverse_cons,List.reverse_cons]; exact Vals.append ih (.cons r .nil)
theorem Vals.rep {xs:List V} {us:List Value} (h:Vals xs us):∀ k:Nat,Vals (List.replicate k xs).flatten (List.replicate k us).flatten
 | 0=>.nil
 | k+1=>by
  rw [List.replicate_succ,List.replicate_succ,List.flatten_cons,List.flatten_cons]
  exact Vals.append h (Vals.rep h k)
theorem erase_last {α:Type} (l:List α):l.eraseIdx (l.length - 1)=l.dropLast:=by
 induction l with
 | nil=>rfl
 | cons a r ih =>
  cases r with
  | nil=>rfl
  | cons b r =>
   have e:(a::b::r).length - 1=((b::r).length - 1)+1:=by
    have h1:(a::b::r).length=r.length+2:=rfl
    have h2:(b::r).length=r.length+1:=rfl
    omega
   rw [e,List.eraseIdx_cons_succ,ih]
   all_goals rfl
section
variable {X:Cx} {pins:List (Addr×Obj)} {σ:St} {H:Hp} {s:Shared} {l b:Addr} {xs ys zs:List V}
theorem Inv.lset {its its':List Value} {n:Nat} {f:Array Value→Array Value} {t':Nat} (I:Inv X pins σ H s) (hH:H l=some (.lst xs))
  (e:s.heap.get? l=some { cls:=.type "list",data:=.seq its.toArray n }) (hf:f its.toArray=its'.toArray) (hv:Vals ys its') (hz:ys.length≤sizeLine) :
  Inv X pins σ (upd H l (.lst ys)) { s with heap:=s.heap.update l (Obj.mapSeq f),toks:=t' }:=by
 have q:=PySem.IsL.update e f
 rw [hf] at q
 refine I.write (x:=l) (e:=l) (by rw [hH]; exact trivial) (.inl rfl) (fun b' u hb hu=>(Heap.get?_update_other s.heap (Obj.mapSeq f) (Ne.symm hb)).trans hu) ⟨_,q⟩ ?_
 exact ⟨hz,its',_,hv,q⟩
theorem Inv.lnew {its:List Value} {t':Nat} (I:Inv X pins σ H s) (hv:Vals ys its) (hz:ys.length≤sizeLine) :
  Inv X pins σ (upd H s.heap.objs.size (.lst ys)) { s with heap:=s.heap.push { cls:=.type "list",data:=.seq its.toArray },toks:=t' } :=
 I.laid (fun _ _ q=>Heap.get?_push_of_some _ q) (Nat.le_refl _) ⟨hz,its,0,hv,Heap.get?_push_size _ rfl⟩
theorem Inv.fresh (I:Inv X pins σ H s):H s.heap.objs.size=none:=I.hok.fresh (Nat.le_refl _)
theorem Inv.lstM (I:Inv X pins σ H s) (hH:H l=some (.lst xs)):xs.length≤sizeLine∧∃ (its:List Value) (n:Nat),Vals xs its∧xs.length=its.length∧s.heap.get? l=some { cls:=.type "list",data:=.seq its.toArray n }:=by
 obtain ⟨z,its,n,r,e⟩:=I.hok l _ hH
 exact ⟨z,its,n,r,r.length,e⟩
theorem notLongL {n:Nat} (h:n≤sizeLine):Builtin.List.listTooLong n=false:=by
 unfold Builtin.List.listTooLong
 exact decide_eq_false (by omega)
end
section
variable {X:Cx}
def rAppend:V→List V→Hp→VK→Prop:=fun x vs H Q=>∃ l xs y,x=.ref l∧vs=[y]∧H l=some (.lst xs)∧xs.length < sizeLine∧Q .non (upd H l (.lst (xs++[y])))
theorem mt_append:MtM X "list.append" rAppend:=by
 intro pins s σ H x vs v us Q I rx rv h
 obtain ⟨l,xs,y,rfl,rfl,hH,hz,q⟩:=h
 cases rx
 obtain ⟨u,rfl,ru⟩:=rv.one
 obtain ⟨z,its,n,r,hl,e⟩:=I.lstM hH
 refine call_meets F.slot_list_append ⟨_,e,rfl⟩ F.entry_list_append (F.args_list_append_2 _ _) (PySem.list_append l its.toArray n u (by rw [List.size_toArray]; omega)) ⟨e,?_⟩
 refine ⟨.non,_,I.lset (its':=its++[u]) hH e (by simp) (r.append (.cons ru .nil)) ?_,rfl,q⟩
 rw [List.length_append,List.length_singleton]
 omega
def rExtend:V→List V→Hp→VK→Prop:=fun x vs H Q=>∃ l b xs zs,x=.ref l∧vs=[.ref b]∧H l=some (.lst xs)∧H b=some (.lst zs)∧xs.length+zs.length≤sizeLine∧Q .non (upd H l (.lst (xs++zs)))
theorem mt_extend:MtM X "list.extend" rExtend:=by
 intro pins s σ H x vs v us Q I rx rv h
 obtain ⟨l,b,xs,zs,rfl,rfl,hH,hB,hz,q⟩:=h
 cases rx
 obtain ⟨u,rfl,ru⟩:=rv.one
 cases ru
 obtain ⟨z,its,n,r,hl,e⟩:=I.lstM hH
 obtain ⟨z2,its2,n2,r2,hl2,e2⟩:=I.lstM hB
 have hsz:its.toArray.size+its2.toArray.size≤sizeLine:=by rw [List.size_toArray,List.size_toArray]; omega
 have hlong:¬ (!its.toArray.isEmpty && Builtin.List.listTooLong (its.toArray.size+its2.toArray.size))=true:=by
  rw [notLongL hsz,Bool.and_false]
  exact Bool.false_ne_true
 refine call_meets F.slot_list_extend ⟨_,e,rfl⟩ F.entry_list_extend (F.args_list_extend_2 _ _)
  (AutoSeq1.list_extend_list_list_0 l its.toArray n b its2.toArray n2 hlong (by rw [List.size_toArray]; omega) (by omega)) ⟨e,e2,?_⟩
 refine ⟨.non,_,I.lset (its':=its++its2) hH e (by simp) (r.append r2) ?_,rfl,q⟩
 rw [List.length_append]
 omega
def rPop:V→List V→Hp→VK→Prop:=fun x vs H Q=>∃ l xs y,x=.ref l∧vs=[]∧H l=some (.lst xs)∧xs[xs.length - 1]?=some y∧Q y (upd H l (.lst xs.dropLast))
theorem mt_pop:MtM X "list.pop" rPop:=by
 intro pins s σ H x vs v us Q I rx rv h
 obtain ⟨l,xs,y,rfl,rfl,hH,hy,q⟩:=h
 cases rx
 have hus:=rv.zero
 subst hus
 obtain ⟨z,its,n,r,hl,e⟩:=I.lstM hH
 obtain ⟨u,hu,ru⟩:=r.get hy
 have hy':its.toArray[its.toArray.size - 1]?=some u:=by
  show its.toArray[its.length - 1]?=some u
  rw [← Array.getElem?_toList,← hl]
  exact hu
 refine call_meets F.slot_list_pop ⟨_,e,rfl⟩ F.entry_list_pop (F.args_list_pop_1 _) (MeetsSeq.list_pop_last l its.toArray n u hy' (by rw [List.size_toArray]; omega)) ⟨e,?_⟩
 refine ⟨y,_,I.lset (its':=its.dropLast) hH e ?_ r.dropLast ?_,ru,q⟩
 ·
  show its.toArray.eraseIdxIfInBounds (its.toArray.size - 1)=its.dropLast.toArray
  rw [List.size_toArray,List.eraseIdxIfInBounds_toArray,erase_last]
 ·
  rw [List.length_dropLast]
  omega
end
section
variable {prog:Program} {w:World} {A:Around} {E:Value→Shared→Prop} {s:Shared}
end
section
variable {X:Cx}
end
end L2
namespace Att
open PySem PySem.W PySem.Calls PyProof.Rows
theorem ints_of_wellAll {P:Params} {h:Heap}:∀ (ns:List Int) (vs:List Value),WellAll P h vs (ns.map WData.int)→IntsAre vs ns:=by
 intro ns
 induction ns with
 | nil =>
  intro vs w
  rw [List.map_nil] at w
  cases w
  exact .nil
 | cons n ns ih =>
  intro vs w
  rw [List.map_cons] at w
  cases w with
  | cons a b =>
   cases a
   exact .cons _ _ (ih _ b)
theorem script_of {l:OpenLaw} {n:Nat} (hn:l.most=some n) {P:Params} {h:Heap} {args:List WData} {vals:List Value}
  (hpre:l.row.toRowW.claim.pre args=true) (hwl:WellAll P h vals args) :
  ∃ a vs ns,vals=[Value.ref a]∧args=[WData.list (ns.map WData.int)]∧h.get? a=some { cls:=.type "list",data:=.seq vs.toArray }∧IntsAre vs ns∧ns.length≤n:=by
 have hsh:WShape.hasAll [] args [.list .int]=true:=(pre_splitW hpre).1
 have hc:l.pre.holds [] { args:=args }=true:=(pre_splitW hpre).2
 obtain ⟨d,r,rfl,h1,h2⟩:=hasAllW_cons hsh
 obtain rfl:=hasAllW_nil h2
 obtain ⟨xs,rfl,h3⟩:=hasW_list h1
 obtain ⟨ns,rfl⟩:=items_int h3
 have hlen:ns.length≤n:=by
  unfold OpenLaw.pre at hc
  have h4:(WTm.not (.lt (.lit (.int (n:Int))) (.len (.arg 0)))).holds [] { args:=[.list (ns.map .int)] }=true:=by
   have h4:=(holds_andW hc).1
   rw [hn] at h4
   exact h4
  have h5:=condW_of h4 (w_not (w_lt w_lit (w_len_list (w_arg rfl))))
  rw [List.length_map] at h5
  refine Nat.le_of_not_lt fun q=>?_
  have q':(n:Int) < ((ns.length:Nat):Int):=by omega
  first
   | (rw [decide_eq_true q'] at h5; exact absurd h5 (by decide))
   | (simp at h5; omega)
 cases hwl with
 | cons w1 w2 =>
  cases w2
  cases w1 with
  | list ho hall=>exact ⟨_,_,ns,rfl,rfl,ho,ints_of_wellAll ns _ hall,hlen⟩
theorem post_true (l:OpenLaw) (args:List WData):l.row.toRowW.claim.post args (.bool true) args=true :=
 postW_of (r:=l.row.toRowW) (X:=(true == true))
  (show WShape.has [] (.bool true) .bool=true by first | rfl | decide | simp [WShape.has,WShape.arms,WShape.armsAll])
  (show (WTm.eq .res (.lit (.bool true))).value [] { args:=args,res:=some (.bool true),after:=args }=some (.bool (true == true)) from w_eq_bool (w_res rfl) w_lit) rfl
theorem attach_call {l:OpenLaw} {n:Nat} {q:Program} {loose:List Str} {XP:(Str→Option Value)→Heap→Prop} {YP:World→Heap→Prop} {d:DefRec}
  (hn:l.most=some n) (hdf:d.params.defaults=[])
  (call:∀ (w:World) (s₀ s₁:Shared) (mg mb:Str→Option Value) (fa:Addr) (o:Obj) (pm cd doc:Value) (a:Addr) (vs:List Value) (ns:List Int),
   Ground q loose [] XP w s₀ mg mb s₁.heap→YP w s₁.heap →
   s₁.heap.get? fa=some o→o.data=.func (docDef d.name d.params d.body d.scope pm cd doc)→s₁.heap.CodeRec cd d.name→mg d.name=some (.ref fa) →
   s₁.heap.get? a=some { cls:=.type "list",data:=.seq vs.toArray }→IntsAre vs ns→ns.length≤n→s₁.gens=#[] →
   codeAny (model l.prog w) callerA (.call (.ref fa) ⟨[.ref a],[]⟩) (fun r s'=>r=.ok (.ret (.bool true))∧OldK s₁.heap s'.heap∧s'.os=s₁.os∧AllBare s'.gens) s₁) :
  WalkO q loose XP YP l.row.toRowW d [] (fun f vs=>PySem.call f vs):=by
 intro w s₀ s₁ mg mb G Y fa o pm cd doc dV kV ho hd hcd hD hmg hg args vals as hpre hlay hrd hwl hlo
 obtain rfl:dV=.none:=Dflts.none hD hdf
 obtain rfl:kV=.none:=Dflts.noKw hD
 obtain ⟨a,vs,ns,rfl,rfl,hobj,hints,hlen⟩:=script_of hn hpre hwl
 refine enter_call (codeAny_mono (call w s₀ s₁ mg mb fa o pm cd doc a vs ns G Y ho (fd_plain hd) hcd hmg hobj hints hlen hg) fun r s' hq=>?_)
 obtain ⟨rfl,h2,h3,h4⟩:=hq
 exact ⟨.inl ⟨.bool true,.bool true,[],rfl,fun _=>rfl,.bool true,post_true l _,fun _=>⟨List.Pairwise.nil,fun _ hm=>(nomatch hm)⟩⟩,h2,h3,h4⟩
section
variable {prog:Program} {w:World} {A:Around} {E:Value→Shared→Prop} {s:Shared} {K:Frag}
def ledger (h:Heap) (L d:Addr):List (Addr×Obj):=(List.range h.objs.size).filterMap fun a=>if a=L∨a=d then none else (h.get? a).map fun o=>(a,o)
end
end Att
namespace L2
open PySem PySem.Spec PyProof.Rows
theorem vals_ints:∀ {vs:List Value} {ns:List Int},IntsAre vs ns→Vals (ns.map V.int) vs
 | _,_,.nil=>.nil
 | _,_,.cons n t h=>.cons ⟨t,rfl⟩ (vals_ints h)
def Only (H:Hp):Prop:=∀ b,H b=none∨∃ o xs,H b=some (.frz o (.lst xs))
theorem law_call {P:Program} {w:World} {K:PySem.W.Frag} {mg mb:Str→Option Value} {CX:CXT} {k:Nat} {fa a:Addr} {fd:FuncData} {x:Str} {sp:Sp} {s₁:Shared} {vs:List Value} {ns:List Int}
  (KX:K.In s₁.heap) (hns:s₁.heap.Ns mainGlobals mg) (hb:s₁.heap.Ns builtinsNs mb) (hbb:∀ x:Str,x≠"__name__"→mb x=bootBuiltins x) (hlim:s₁.heap.NoLimit) (hg:s₁.gens=#[])
  (ha:s₁.heap.get? a=some { cls:=.type "list",data:=.seq vs.toArray }) (hi:IntsAre vs ns) (hl:ns.length≤sizeLine) (hr:Room k callerA)
  (F:∀ base:Heap,K.In base→base.Ns mainGlobals mg→FnOk P w K mg base CX k fa fd [x] sp) (hbind:∀ (s:Shared) (u:Value),BindsTo s fd ⟨[u],[]⟩ [(x,u)])
  (hsp:∀ H:Hp,Only H→SqL K H a (ns.map V.int)→sp [.ref a] H (fun v _=>v=.bl true) fun _ _ _=>False)
  (hCX:∀ H e s',CX [] H s₁ (fun _ _ _=>False) e s'→False) :
  codeAny (model P w) callerA (.call (.ref fa) ⟨[.ref a],[]⟩) (fun r s'=>r=.ok (.ret (.bool true))∧OldK s₁.heap s'.heap∧s'.os=s₁.os∧AllBare s'.gens) s₁:=by
 have rv:=vals_ints hi
 have lenV:=hi.length
 have core:∀ H:Hp,Only H→SqL K H a (ns.map V.int)→HOk P w H s₁.heap→(∀ b,H b≠none→b=a)→(H a≠none→K.lookup a=none) →
   codeAny (model P w) callerA (.call (.ref fa) ⟨[.ref a],[]⟩) (fun r s'=>r=.ok (.ret (.bool true))∧OldK s₁.heap s'.heap∧s'.os=s₁.os∧AllBare s'.gens) s₁:=by
  intro H hO hS hok hA hK
  have base_of:∀ {b:Addr} {o:Obj},s₁.heap.get? b=some o→H b=none→(hidT s₁.heap H).get? b=some o:=fun e n=>hidT_get e n
  have noA:∀ {b:Addr} {o:Obj} {es:Array DictEntry} {ep:Nat},s₁.heap.get? b=some o→o.data=.dict es ep→H b=none:=fun {b o es ep} e d=>by
   cases q:H b with
   | none=>rfl
   | some u =>
    have e':b=a:=hA b (by rw [q]; simp)
    subst e'
    rw [ha] at e; cases e
    have d':Data.seq vs.toArray _=Data.dict es ep:=d
    cases d'
  have nsK:∀ {b:Addr} {m:Str→Option Value},s₁.heap.Ns b m→(hidT s₁.heap H).Ns b m:=fun {b m} ⟨o,es,ep,e,d,r⟩=>⟨o,es,ep,base_of e (noA e d),d,r⟩
  have hKb:K.In (hidT s₁.heap H):=fun b o e=>base_of (KX b o e) (by
   cases q:H b with
   | none=>rfl
   | some u =>
    have e':b=a:=hA b (by rw [q]; simp)
    subst e'
    rw [hK (by rw [q]; simp)] at e; cases e)
  have hM:Mod K mg (hidT s₁.heap H):=⟨hKb,nsK hns,⟨mb,nsK hb,hbb⟩,let ⟨mc,h1,h2⟩:=hlim; ⟨mc,nsK h1,h2⟩⟩
  have e0:Env0 P w K mg (hidT s₁.heap H) callerA [] s₁ H:=⟨rfl,hM,fun b o e=>of_hidT e,Nat.le_of_eq (hidT_size _ _),trivial,fun b hb=>absurd (show b∈([]:List Addr) from hb) (by simp),hok,.of_eq hg⟩
  refine codeAny_mono ((F _ hKb (nsK hns)).run callerA [] s₁ H ⟨[.ref a],[]⟩ [.ref a] [.ref a] _ _ hr e0 (hbind s₁ (.ref a)) (.cons rfl .nil) (hsp H hO hS)) fun r s' h=>?_
  cases r with
  | error e=>exact (hCX H e s' h).elim
  | ok fl =>
   cases fl with
   | next=>exact False.elim h
   | brk=>exact False.elim h
   | cont=>exact False.elim h
   | ret u =>
    obtain ⟨v,H',os,bare,un,hok',r',q⟩:=h
    have q':v=.bl true:=q
    subst q'
    obtain rfl:u=Value.bool true:=r'
    refine ⟨rfl,OldK.of_keep fun b o e=>?_,os,bare⟩
    cases q:H b with
    | none=>exact un.keep b o e q (by intro z; exact absurd (show b∈([]:List Addr) from z) (by simp)) (by simp)
    | some u =>
     rcases hO b with z | ⟨ob,xs,z⟩
     ·
      rw [q] at z; cases z
     ·
      have z2:=un.frzs b ob _ z
      obtain ⟨e1,_⟩:=hok b _ z
      obtain ⟨e2,_⟩:=hok' b _ z2
      rw [e] at e1; cases e1
      exact e2
 cases hk:K.lookup a with
 | some o =>
  have e:=KX a o hk
  rw [ha] at e
  cases e
  refine core (fun _=>none) (fun _=>.inl rfl) (.inr ⟨_,vs.toArray,_,hk,rfl,rfl,rfl,by rw [List.size_toArray,lenV]; exact hl,by simpa using rv⟩) (fun b u z=>by have z':(none:Option HO)=some u:=z; cases z') (fun b z=>absurd rfl z) fun z=>absurd rfl z
 | none =>
  refine core (fun b=>if b=a then some (.frz { cls:=.type "list",data:=.seq vs.toArray } (.lst (ns.map V.int))) else none) (fun b=>?_) (.inl (.inr ⟨{ cls:=.type "list",data:=.seq vs.toArray },if_pos rfl⟩)) (fun b u z=>?_) (fun b z=>?_) fun _=>hk
  ·
   by_cases hb:b=a
   ·
    exact .inr ⟨_,_,if_pos hb⟩
   ·
    exact .inl (if_neg hb)
  ·
   by_cases hb:b=a
   ·
    have z':=(if_pos hb).symm.trans z
    cases z'
    subst hb
    exact ⟨ha,by rw [List.length_map]; exact hl,vs,_,rv,ha⟩
   ·
    have z':=(if_neg hb).symm.trans z
    cases z'
  ·
   by_cases hb:b=a
   ·
    exact hb
   ·
    exact absurd (if_neg hb) z
end L2
namespace L2
open PySem PySem.Spec PyProof.Rows
theorem walk_of {l:PySem.W.OpenLaw} {n k:Nat} {q:Program} {loose:List Str} {XP:(Str→Option Value)→Heap→Prop} {YP:World→Heap→Prop} {d:DefRec} {K:Params→PySem.W.Frag} {CX:World→CXT} {sp:World→Sp} {x:Str}
  (hn:l.most=some n) (hn2:n≤sizeLine) (hdf:d.params.defaults=[]) (hr:Room k callerA)
  (hY:∀ (w:World) (h:Heap),YP w h→(K w.params).In h)
  (F:∀ (w:World) (mg:Str→Option Value) (fa:Addr) (h:Heap),(K w.params).In h→h.Ns mainGlobals mg→mg d.name=some (.ref fa) →
   ∃ fd:FuncData,(∀ (s:Shared) (u:Value),BindsTo s fd ⟨[u],[]⟩ [(x,u)]) ∧
    ∀ base:Heap,(K w.params).In base→base.Ns mainGlobals mg→FnOk l.prog w (K w.params) mg base (CX w) k fa fd [x] (sp w))
  (hsp:∀ (w:World) (H:Hp) (a:Addr) (ns:List Int),ns.length≤n→Only H→SqL (K w.params) H a (ns.map V.int)→sp w [.ref a] H (fun v _=>v=.bl true) fun _ _ _=>False)
  (hCX:∀ (w:World) (H:Hp) (s:Shared) (e:Value) (s':Shared),CX w [] H s (fun _ _ _=>False) e s'→False) :
  PySem.W.WalkO q loose XP YP l.row.toRowW d [] (fun f vs=>PySem.call f vs):=by
 refine Att.attach_call hn hdf fun w s₀ s₁ mg mb fa o pm cd doc a vs ns G Y ho hd hcd hmg hobj hints hlen hg=>?_
 have KX:=hY w _ Y
 obtain ⟨fd,hb,hF⟩:=F w mg fa _ KX G.T.g hmg
 exact law_call KX G.T.g G.T.b G.T.builtins G.T.nolimit hg hobj hints (Nat.le_trans hlen hn2) hr hF hb (fun H hO hS=>hsp w H a ns hlen hO hS) fun H e s'=>hCX w H s₁ e s'
end L2
namespace L2
open PySem PySem.Spec PyProof.Rows
def defArgs (s:Stmt):Arguments:=match s with
 | .FunctionDef _ a _ _ _ _ _ _ _ _=>a
 | _=>{ posonlyargs:=[],args:=[],vararg:=none,kwonlyargs:=[],kw_defaults:=[],kwarg:=none,defaults:=[] }
def defBody (s:Stmt):List Stmt:=match s with
 | .FunctionDef _ _ b _ _ _ _ _ _ _=>b
 | _=>[]
def ai (s:Stmt):Scope:=match s with
 | .FunctionDef _ _ _ _ _ _ sc _ _ _=>sc
 | _=>{ kind:=.function,names:=[],isGenerator:=false,isCoroutine:=false }
abbrev CX0:CXT:=fun _ _ _ _ _ _=>False
abbrev E0:XK:=fun _ _ _=>False
theorem pass0 {X:Cx}:Passes CX0 X E0:=fun _ _ _ _ _ _ _ h=>h.elim
structure Fun (K:PySem.W.Frag) (x qual:Str) (st:Stmt) (f:Addr) (fd:FuncData):Prop where
 ex:∃ (oc:Value) (od:Option Addr) (kV doc pm:Value) (an:Option Addr) (cdv ct:Value) (osl:Array (Option Value)),
  fd=PySem.W.fnOf x qual (defArgs st) (defBody st) (ai st) .none kV doc pm an cdv ct∧K.lookup f=some ⟨oc,od,.func fd,osl⟩∧PySem.W.codeIn K cdv qual=true
 kp:PySem.W.keepIn K (.ref f)=true
section
variable {P:Program} {w:World} {K:PySem.W.Frag} {mg:Str→Option Value} {base:Heap}
theorem Fun.ok {x qual:Str} {st:Stmt} {f:Addr} {fd:FuncData} {N ps:List Str} {k:Nat} {sp:Sp} (F:Fun K x qual st f fd) (S:aq N ps (ai st)) (len:∀ vs H Q E,sp vs H Q E→vs.length=ps.length)
  (hbody:∀ (cdv:Value) (A:Around) (outer:List Env) (s:Shared) (H:Hp) (vs:List V) (Q:VK) (E:XK),Room k (A.deeper (envOfC qual (ai st) s.heap.objs.size f cdv))→sp vs H Q E →
   ∃ t,PSs (cxOf CX0 P w K mg base N qual (ai st) f cdv A outer s H E).nox (defBody st) t∧t { nx:=fun _ H'=>Q .non H',rt:=Q } (start N vs) H):FnOk P w K mg base CX0 (k+1) f fd ps sp:=by
 obtain ⟨oc,od,kV,doc,pm,an,cdv,ct,osl,rfl,lk,hcd⟩:=F.ex
 refine fn_of lk hcd S len fun A outer s H vs Q E hr hsp=>?_
 obtain ⟨t,h,q⟩:=hbody cdv A outer s H vs Q E hr hsp
 exact ⟨t,h.nox,q⟩
theorem Fun.binds {x qual:Str} {st:Stmt} {f:Addr} {fd:FuncData} {ps:List Str} (F:Fun K x qual st f fd)
  (h:∀ (kV doc pm:Value) (an:Option Addr) (cdv ct:Value) (us:List Value),us.length=ps.length→bindArgs (PySem.W.fnOf x qual (defArgs st) (defBody st) (ai st) .none kV doc pm an cdv ct) ⟨us,[]⟩=pure (ps.zip us)):Binds K fd ps []:=by
 obtain ⟨oc,od,kV,doc,pm,an,cdv,ct,osl,rfl,lk,hcd⟩:=F.ex
 exact .all (h kV doc pm an cdv ct)
theorem fun_mk {x qual:Str} {st:Stmt} {f:Addr} {oc:Value} {od an:Option Addr} {osl:Array (Option Value)} {kV doc pm cdv ct:Value} (l:K.lookup f=some ⟨oc,od,.func (PySem.W.fnOf x qual (defArgs st) (defBody st) (ai st) .none kV doc pm an cdv ct),osl⟩)
  (c:PySem.W.codeIn K cdv qual=true) (k:PySem.W.keepIn K (.ref f)=true):Fun K x qual st f (PySem.W.fnOf x qual (defArgs st) (defBody st) (ai st) .none kV doc pm an cdv ct):=⟨⟨oc,od,kV,doc,pm,an,cdv,ct,osl,rfl,l,c⟩,k⟩
end
section
variable {X:Cx}
end
def Same (H H':Hp):Prop:=∀ b o,H b=some o→H' b=some o
theorem Same.refl (H:Hp):Same H H:=fun _ _ h=>h
theorem Same.trans {H H1 H2:Hp} (a:Same H H1) (b:Same H1 H2):Same H H2:=fun c o h=>b c o (a c o h)
theorem Same.free {H H':Hp} (e:Same H H') {l:Addr} (h:H' l=Option.none):H l=Option.none:=by
 cases q:H l with
 | none=>rfl
 | some o =>
  rw [e l o q] at h
  cases h
theorem Same.seq {K:PySem.W.Frag} {H H':Hp} {a:Addr} {xs:List V} (e:Same H H') (h:SqL K H a xs):SqL K H' a xs:=by
 rcases h with (h | ⟨o,h⟩) | h
 ·
  exact .inl (.inl (e _ _ h))
 ·
  exact .inl (.inr ⟨o,e _ _ h⟩)
 ·
  exact .inr h
end L2
namespace L2
open PySem PySem.Spec PyProof.Rows
inductive D where
 | non | bl (b:Bool) | int (i:Int) | str (x:Str) | tup (xs:List D) | lst (xs:List D) | dct (n:Nat)
def SqZ (K:PySem.W.Frag) (H:Hp) (a:Addr) (xs:List V):Prop :=
 (∃ o,H a=some (.frz o (.lst xs))) ∨
  ∃ (o:Obj) (its:Array Value) (n:Nat),K.lookup a=some o∧o.cls=.type "list"∧o.dict=none∧o.data=.seq its n∧its.size≤sizeLine∧Vals xs its.toList
theorem SqZ.l {K:PySem.W.Frag} {H:Hp} {a:Addr} {xs:List V} (h:SqZ K H a xs):SqL K H a xs:=by
 rcases h with ⟨o,h⟩ | h
 ·
  exact .inl (.inr ⟨o,h⟩)
 ·
  exact .inr h
mutual
inductive Rep (K:PySem.W.Frag) (H:Hp):V→D→Prop where
 | non:Rep K H .non .non
 | bl (b:Bool):Rep K H (.bl b) (.bl b)
 | int (i:Int):Rep K H (.int i) (.int i)
 | str (x:Str):Rep K H (.str x) (.str x)
 | tup {a:Addr} {vs:List V} {ds:List D} (h:SqT K H a vs) (r:Reps K H vs ds):Rep K H (.ref a) (.tup ds)
 | lst {a:Addr} {vs:List V} {ds:List D} (h:SqZ K H a vs) (r:Reps K H vs ds):Rep K H (.ref a) (.lst ds)
 | dct {a:Addr} {o:Obj} {kvs:List (Key×V)} (h:H a=some (.frz o (.dK kvs))):Rep K H (.ref a) (.dct kvs.length)
inductive Reps (K:PySem.W.Frag) (H:Hp):List V→List D→Prop where
 | nil:Reps K H [] []
 | cons {v:V} {d:D} {vs:List V} {ds:List D} (h:Rep K H v d) (t:Reps K H vs ds):Reps K H (v::vs) (d::ds)
end
def Pers:HO→Prop
 | .tup _=>True
 | .frz _ _=>True
 | _=>False
def Pres (H H':Hp):Prop:=∀ b o,Pers o→H b=some o→H' b=some o
theorem SqT.pres {K:PySem.W.Frag} {H H':Hp} {a:Addr} {xs:List V} (p:Pres H H') (h:SqT K H a xs):SqT K H' a xs:=by
 rcases h with (h | ⟨o,h⟩) | h
 ·
  exact .inl (.inl (p _ _ True.intro h))
 ·
  exact .inl (.inr ⟨o,p _ _ True.intro h⟩)
 ·
  exact .inr h
theorem SqZ.pres {K:PySem.W.Frag} {H H':Hp} {a:Addr} {xs:List V} (p:Pres H H') (h:SqZ K H a xs):SqZ K H' a xs:=by
 rcases h with ⟨o,h⟩ | h
 ·
  exact .inl ⟨o,p _ _ True.intro h⟩
 ·
  exact .inr h
mutual
theorem Rep.pres {K:PySem.W.Frag} {H H':Hp} (p:Pres H H'):∀ {v:V} {d:D},Rep K H v d→Rep K H' v d
 | _,_,.non=>.non
 | _,_,.bl b=>.bl b
 | _,_,.int i=>.int i
 | _,_,.str x=>.str x
 | _,_,.tup h r=>.tup (h.pres p) (Reps.pres p r)
 | _,_,.lst h r=>.lst (h.pres p) (Reps.pres p r)
 | _,_,.dct h=>.dct (p _ _ True.intro h)
theorem Reps.pres {K:PySem.W.Frag} {H H':Hp} (p:Pres H H'):∀ {vs:List V} {ds:List D},Reps K H vs ds→Reps K H' vs ds
 | _,_,.nil=>.nil
 | _,_,.cons h t=>.cons (Rep.pres p h) (Reps.pres p t)
end
theorem Reps.length {K:PySem.W.Frag} {H:Hp}:∀ {vs:List V} {ds:List D},Reps K H vs ds→vs.length=ds.length
 | _,_,.nil=>rfl
 | _,_,.cons _ t=>by simp [Reps.length t]
theorem Reps.get {K:PySem.W.Frag} {H:Hp}:∀ {vs:List V} {ds:List D} {i:Nat} {d:D},Reps K H vs ds→ds[i]?=some d→∃ v,vs[i]?=some v∧Rep K H v d
 | _,_,_,_,.nil,e=>by simp at e
 | _,_,0,_,.cons h _,e=>by simp at e; subst e; exact ⟨_,rfl,h⟩
 | _,_,i+1,d,.cons _ t,e=>by
  obtain ⟨v,h1,h2⟩:=Reps.get (i:=i) (d:=d) t (by simpa using e)
  exact ⟨v,by simpa using h1,h2⟩
theorem Reps.set {K:PySem.W.Frag} {H:Hp} {v:V} {d:D} (r:Rep K H v d):∀ {vs:List V} {ds:List D} (i:Nat),Reps K H vs ds→Reps K H (vs.set i v) (ds.set i d)
 | _,_,_,.nil=>.nil
 | _,_,0,.cons _ t=>.cons r t
 | _,_,i+1,.cons h t=>.cons h (Reps.set r i t)
theorem Reps.append {K:PySem.W.Frag} {H:Hp}:∀ {vs us:List V} {ds es:List D},Reps K H vs ds→Reps K H us es→Reps K H (vs++us) (ds++es)
 | _,_,_,_,.nil,s=>s
 | _,_,_,_,.cons h t,s=>.cons h (Reps.append t s)
theorem Reps.take {K:PySem.W.Frag} {H:Hp}:∀ {vs:List V} {ds:List D} (n:Nat),Reps K H vs ds→Reps K H (vs.take n) (ds.take n)
 | _,_,0,_=>.nil
 | _,_,_+1,.nil=>.nil
 | _,_,n+1,.cons h t=>.cons h (Reps.take n t)
theorem Reps.drop {K:PySem.W.Frag} {H:Hp}:∀ {vs:List V} {ds:List D} (n:Nat),Reps K H vs ds→Reps K H (vs.drop n) (ds.drop n)
 | _,_,0,r=>r
 | _,_,_+1,.nil=>.nil
 | _,_,n+1,.cons _ t=>Reps.drop n t
theorem Reps.reverse {K:PySem.W.Frag} {H:Hp}:∀ {vs:List V} {ds:List D},Reps K H vs ds→Reps K H vs.reverse ds.reverse
 | _,_,.nil=>.nil
 | _,_,.cons h t=>by
  rw [List.reverse_cons,List.reverse_cons]
  exact (Reps.reverse t).append (.cons h .nil)
inductive L where
 | un | d (x:D) | own (a:Addr) (xs:List D) | bx (k:Option Addr) (ls:List L)
abbrev Ev:=List L
mutual
def bz:L→List Addr
 | .un=>[]
 | .d _=>[]
 | .own a _=>[a]
 | .bx k ls=>k.toList++ownsLs ls
def ownsLs:List L→List Addr
 | []=>[]
 | l::ls=>bz l++ownsLs ls
end
def owns (ρ:Ev):List Addr:=ρ.flatMap bz
theorem di:∀ ls:List L,ownsLs ls=owns ls
 | []=>rfl
 | l::ls=>by rw [ownsLs,di ls]; rfl
mutual
def bB (K:PySem.W.Frag) (H:Hp) (s:Option V):L→Prop
 | .un=>True
 | .d x=>∃ v,s=some v∧Rep K H v x
 | .own a xs=>s=some (.ref a)∧∃ vs,H a=some (.lst vs)∧Reps K H vs xs
 | .bx none ls=>∃ a vs,s=some (.ref a)∧SqT K H a vs∧c9 K H vs ls
 | .bx (some a) ls=>s=some (.ref a)∧∃ vs,H a=some (.lst vs)∧c9 K H vs ls
def c9 (K:PySem.W.Frag) (H:Hp) (vs:List V):List L→Prop
 | []=>vs=[]
 | l::ls=>∃ v us,vs=v::us∧bB K H (some v) l∧c9 K H us ls
end
mutual
theorem bB.pres {K:PySem.W.Frag} {H H':Hp} (p:Pres H H'):∀ {s:Option V} (l:L),(∀ a∈bz l,H' a=H a)→bB K H s l→bB K H' s l
 | _,.un,_,_=>by simp only [bB]
 | _,.d x,_,h=>by
  simp only [bB] at h ⊢
  obtain ⟨v,e,r⟩:=h
  exact ⟨v,e,r.pres p⟩
 | _,.own a xs,q,h=>by
  simp only [bB] at h ⊢
  obtain ⟨e,vs,ha,r⟩:=h
  exact ⟨e,vs,(q a (by simp [bz])).trans ha,r.pres p⟩
 | _,.bx none ls,q,h=>by
  simp only [bB] at h ⊢
  obtain ⟨a,vs,e,ha,r⟩:=h
  exact ⟨a,vs,e,ha.pres p,c9.pres p ls (fun b hb=>q b (by simp [bz,hb])) r⟩
 | _,.bx (some a) ls,q,h=>by
  simp only [bB] at h ⊢
  obtain ⟨e,vs,ha,r⟩:=h
  exact ⟨e,vs,(q a (by simp [bz])).trans ha,c9.pres p ls (fun b hb=>q b (by simp [bz,hb])) r⟩
theorem c9.pres {K:PySem.W.Frag} {H H':Hp} (p:Pres H H'):∀ {vs:List V} (ls:List L),(∀ a∈ownsLs ls,H' a=H a)→c9 K H vs ls→c9 K H' vs ls
 | _,[],_,h=>by simpa only [c9] using h
 | _,l::ls,q,h=>by
  simp only [c9] at h ⊢
  obtain ⟨v,us,e,h1,h2⟩:=h
  exact ⟨v,us,e,bB.pres p l (fun b hb=>q b (by simp [ownsLs,hb])) h1,c9.pres p ls (fun b hb=>q b (by simp [ownsLs,hb])) h2⟩
end
mutual
theorem bB.lstAt {K:PySem.W.Frag} {H:Hp}:∀ {s:Option V} (l:L),bB K H s l→∀ a∈bz l,∃ vs,H a=some (.lst vs)
 | _,.un,_,a,ha=>by simp [bz] at ha
 | _,.d x,_,a,ha=>by simp [bz] at ha
 | _,.own b xs,h,a,ha=>by
  simp only [bB] at h
  have e:a=b:=by simpa [bz] using ha
  subst e
  obtain ⟨_,vs,q,_⟩:=h
  exact ⟨vs,q⟩
 | _,.bx none ls,h,a,ha=>by
  simp only [bB] at h
  obtain ⟨b,vs,e,_,r⟩:=h
  exact c9.lstAt ls r a (by simpa [bz] using ha)
 | _,.bx (some b) ls,h,a,ha=>by
  simp only [bB] at h
  obtain ⟨e,vs,q,r⟩:=h
  rcases (by simpa [bz] using ha:a=b∨a∈ownsLs ls) with z | z
  ·
   subst z; exact ⟨vs,q⟩
  ·
   exact c9.lstAt ls r a z
theorem c9.lstAt {K:PySem.W.Frag} {H:Hp}:∀ {vs:List V} (ls:List L),c9 K H vs ls→∀ a∈ownsLs ls,∃ vs,H a=some (.lst vs)
 | _,[],_,a,ha=>by simp [ownsLs] at ha
 | _,l::ls,h,a,ha=>by
  simp only [c9] at h
  obtain ⟨v,us,e,h1,h2⟩:=h
  rcases (by simpa [ownsLs] using ha:a∈bz l∨a∈ownsLs ls) with z | z
  ·
   exact bB.lstAt l h1 a z
  ·
   exact c9.lstAt ls h2 a z
end
structure REnv (K:PySem.W.Frag) (Pr H:Hp) (σ:St) (ρ:Ev):Prop where
 sub:∀ b o,Pr b=some o→H b=some o
 nd:(owns ρ).Nodup
 off:∀ a∈owns ρ,Pr a=none
 sl:Paired (bB K H) σ ρ
theorem fu {ρ:Ev} {a:Addr}:a∈owns ρ↔∃ l∈ρ,a∈bz l:=by
 unfold owns
 rw [List.mem_flatMap]
theorem own_mem {ρ:Ev} {a:Addr} {xs:List D} (h:L.own a xs∈ρ):a∈owns ρ:=fu.mpr ⟨_,h,by simp [bz]⟩
theorem aw (a b:Ev):owns (a++b)=owns a++owns b:=List.flatMap_append
theorem Paired.mem2 {α β:Type} {F:α→β→Prop}:∀ {l1:List α} {l2:List β} {b:β},Paired F l1 l2→b∈l2→∃ a,a∈l1∧F a b
 | _,_,_,.nil,h=>by simp at h
 | _,_,_,.cons r t,h=>by
  rcases List.mem_cons.mp h with rfl | h
  ·
   exact ⟨_,List.mem_cons_self,r⟩
  ·
   obtain ⟨a,h1,h2⟩:=Paired.mem2 t h
   exact ⟨a,List.mem_cons_of_mem _ h1,h2⟩
theorem Paired.app {α β:Type} {F:α→β→Prop}:∀ {a c:List α} {b d:List β},Paired F a b→Paired F c d→Paired F (a++c) (b++d)
 | _,_,_,_,.nil,s=>s
 | _,_,_,_,.cons r t,s=>.cons r (Paired.app t s)
theorem Paired.unapp {α β:Type} {F:α→β→Prop}:∀ {a c:List α} {b d:List β},a.length=b.length→Paired F (a++c) (b++d)→Paired F a b∧Paired F c d
 | [],_,[],_,_,s=>⟨.nil,s⟩
 | x::a,_,y::b,_,hl,.cons r t=>by
  obtain ⟨p,q⟩:=Paired.unapp (a:=a) (b:=b) (by simpa using hl) t
  exact ⟨.cons r p,q⟩
 | [],_,_::_,_,hl,_=>by simp at hl
 | _::_,_,[],_,hl,_=>by simp at hl
theorem Paired.get2 {α β:Type} {F:α→β→Prop}:∀ {l1:List α} {l2:List β} {i:Nat} {b:β},Paired F l1 l2→l2[i]?=some b→∃ a,l1[i]?=some a∧F a b
 | _,_,_,_,.nil,e=>by simp at e
 | _,_,0,_,.cons h _,e=>by simp at e; subst e; exact ⟨_,rfl,h⟩
 | _,_,i+1,d,.cons _ t,e=>by
  obtain ⟨v,h1,h2⟩:=Paired.get2 (i:=i) (b:=d) t (by simpa using e)
  exact ⟨v,by simpa using h1,h2⟩
theorem Paired.set2 {α β:Type} {F:α→β→Prop} {a:α} {b:β} (r:F a b):∀ {l1:List α} {l2:List β} (i:Nat),Paired F l1 l2→Paired F (l1.set i a) (l2.set i b)
 | _,_,_,.nil=>.nil
 | _,_,0,.cons _ t=>.cons r t
 | _,_,i+1,.cons h t=>.cons h (Paired.set2 r i t)
theorem Paired.impMem {α β:Type} {F G:α→β→Prop}:∀ {l1:List α} {l2:List β},Paired F l1 l2→(∀ b∈l2,∀ a,F a b→G a b)→Paired G l1 l2
 | _,_,.nil,_=>.nil
 | _,_,.cons r t,h=>.cons (h _ List.mem_cons_self _ r) (Paired.impMem t fun b hb=>h b (List.mem_cons_of_mem _ hb))
theorem Paired.set_r {α β:Type} {F:α→β→Prop} {b:β}:∀ {l1:List α} {l2:List β} (i:Nat),Paired F l1 l2→(∀ a,l1[i]?=some a→F a b)→Paired F l1 (l2.set i b)
 | _,_,_,.nil,_=>.nil
 | _,_,0,.cons _ t,h=>.cons (h _ rfl) t
 | _,_,i+1,.cons q t,h=>.cons q (Paired.set_r i t fun a e=>h a (by simpa using e))
section
variable {K:PySem.W.Frag} {Pr H H':Hp} {σ τ w σ':St} {ρ μ lam ρ':Ev}
theorem REnv.len (E:REnv K Pr H σ ρ):σ.length=ρ.length:=Paired.length E.sl
def a0 (H:Hp) (ρ:Ev):Hp:=fun b=>if b∈owns ρ then none else H b
theorem REnv.at_own (E:REnv K Pr H σ ρ) {a:Addr} (h:a∈owns ρ):∃ vs,H a=some (.lst vs):=by
 obtain ⟨l,hx,ha⟩:=fu.mp h
 obtain ⟨s,_,q⟩:=Paired.mem2 E.sl hx
 exact q.lstAt l a ha
theorem REnv.wide (E:REnv K Pr H σ ρ):REnv K (a0 H ρ) H σ ρ :=
 ⟨fun b o e=>by unfold a0 at e; split at e; cases e; exact e,E.nd,fun a h=>by unfold a0; rw [if_pos h],E.sl⟩
theorem REnv.drop (E:REnv K Pr H (τ++σ) (lam++ρ)) (hl:τ.length=lam.length):REnv K Pr H σ ρ :=
 ⟨E.sub,(List.nodup_append.mp (aw lam ρ ▸ E.nd)).2.1,fun a h=>E.off a (by rw [aw]; exact List.mem_append_right _ h),(Paired.unapp hl E.sl).2⟩
theorem REnv.left (E:REnv K Pr H (τ++σ) (lam++ρ)) (hl:τ.length=lam.length):REnv K Pr H τ lam :=
 ⟨E.sub,(List.nodup_append.mp (aw lam ρ ▸ E.nd)).1,fun a h=>E.off a (by rw [aw]; exact List.mem_append_left _ h),(Paired.unapp hl E.sl).1⟩
theorem pres_of {H H':Hp} {ρ:Ev} {σ:St} {Pr:Hp} (E:REnv K Pr H σ ρ) (h:∀ b o,a0 H ρ b=some o→H' b=some o):Pres H H':=fun b o p e=>by
 refine h b o ?_
 unfold a0
 rw [if_neg,e]
 intro hm
 obtain ⟨vs,e'⟩:=E.at_own hm
 rw [e] at e'
 cases e'
 exact p
theorem REnv.step (E:REnv K Pr H (τ++σ) (lam++ρ)) (hl:τ.length=lam.length) (E':REnv K (a0 H ρ) H' (w++σ') (μ++ρ')) (hw:w.length=μ.length):REnv K Pr H' (w++(τ++σ')) (μ++(lam++ρ')):=by
 have Eσ:=E.drop hl
 have p:Pres H H':=pres_of Eσ E'.sub
 have dis:∀ a∈owns lam,a∉owns ρ:=fun a h1 h2=>(List.nodup_append.mp (aw lam ρ ▸ E.nd)).2.2 a h1 a h2 rfl
 have at':∀ a∈owns lam,a0 H ρ a=H a:=fun a h=>by unfold a0; rw [if_neg (dis a h)]
 have some':∀ a∈owns lam,∃ vs,H a=some (.lst vs):=fun a h=>E.at_own (by rw [aw]; exact List.mem_append_left _ h)
 have out:∀ a∈owns lam,a∉owns (μ++ρ'):=fun a h h2=>by
  have z:=E'.off a h2
  rw [at' a h] at z
  obtain ⟨vs,e⟩:=some' a h
  rw [e] at z
  cases z
 have s1:=(Paired.unapp hw E'.sl)
 have s2:=(Paired.unapp hl E.sl).1
 refine ⟨fun b o e=>?_,?_,fun a ha=>?_,Paired.app s1.1 (Paired.app ?_ s1.2)⟩
 ·
  refine E'.sub b o ?_
  unfold a0
  rw [if_neg,E.sub b o e]
  intro hm
  have z:=Eσ.off b hm
  rw [e] at z
  cases z
 ·
  have n1:=E'.nd
  rw [aw] at n1
  rw [aw,aw]
  obtain ⟨q1,q2,q3⟩:=List.nodup_append.mp n1
  refine List.nodup_append.mpr ⟨q1,List.nodup_append.mpr ⟨(List.nodup_append.mp (aw lam ρ ▸ E.nd)).1,q2,fun a ha b hb=>?_⟩,fun a ha b hb=>?_⟩
  ·
   rintro rfl
   exact out a ha (by rw [aw]; exact List.mem_append_right _ hb)
  ·
   rcases List.mem_append.mp hb with hb | hb
   ·
    rintro rfl
    exact out a hb (by rw [aw]; exact List.mem_append_left _ ha)
   ·
    exact q3 a ha b hb
 ·
  rw [aw,aw] at ha
  have key:a∈owns (μ++ρ')→Pr a=none:=fun h=>by
   have z:=E'.off a h
   unfold a0 at z
   by_cases hm:a∈owns ρ
   ·
    exact Eσ.off a hm
   ·
    rw [if_neg hm] at z
    cases q:Pr a with
    | none=>rfl
    | some o=>rw [E.sub a o q] at z; cases z
  rcases List.mem_append.mp ha with h | h
  ·
   exact key (by rw [aw]; exact List.mem_append_left _ h)
  ·
   rcases List.mem_append.mp h with h | h
   ·
    exact E.off a (by rw [aw]; exact List.mem_append_left _ h)
   ·
    exact key (by rw [aw]; exact List.mem_append_right _ h)
 ·
  have:∀ l∈lam,∀ s,bB K H s l→bB K H' s l:=fun l hlm s h=>h.pres p l fun a e=>by
   have ha:a∈owns lam:=fu.mpr ⟨l,hlm,e⟩
   obtain ⟨vs,e⟩:=some' a ha
   rw [E'.sub a _ ((at' a ha).trans e),e]
  exact Paired.impMem s2 this
end
end L2
namespace L2
open PySem PySem.Spec PyProof.Rows
section
variable {X:Cx} {pins:List (Addr×Obj)} {σ:St} {H:Hp} {s:Shared}
theorem Inv.reword {a:Addr} {u w:HO} (I:Inv X pins σ H s) (h:H a=some u) (hu:¬ Pers u) (hw:∀ y,u≠.own y) (ht:∀ ps,u≠.tbl ps) (nw:ObjOk X.prog X.w H s.heap a w) (hw2:∀ C dx fs,w≠.ins C dx fs):Inv X pins σ (upd H a w) s:=by
 have ne:∀ b,H b=none→b≠a:=fun b n e=>by subst e; rw [h] at n; cases n
 have nt:∀ b xs,H b=some (.tup xs)→b≠a:=fun b xs n e=>by subst e; rw [h] at n; cases n; exact hu True.intro
 have nf:∀ b o z,H b=some (.frz o z)→b≠a:=fun b o z n e=>by subst e; rw [h] at n; cases n; exact hu True.intro
 have no:∀ b z,H b=some (.own z)→b≠a:=fun b z n e=>by subst e; rw [h] at n; cases n; exact hw _ rfl
 refine ⟨I.ok,I.os,I.bare,⟨I.base.keep,I.base.slot,fun b ob e n hx=>?_,I.base.there,fun b xs e=>?_,fun b ob z e=>?_,fun b ps e=>?_⟩,I.loc,I.cell,?_,fun x c e=>?_,fun p hp=>?_,fun b z e=>?_,I.len⟩
 ·
  have q:=I.base.free b ob e n hx
  rw [aI (ne b q)]; exact q
 ·
  have q:=I.base.tups b xs e
  rw [aI (nt b xs q)]; exact q
 ·
  have q:=I.base.frzs b ob z e
  rw [aI (nf b ob z q)]; exact q
 ·
  obtain ⟨more,q⟩:=I.base.tbls b ps e
  refine ⟨more,?_⟩
  rw [aI (fun z=>by subst z; rw [h] at q; cases q; exact ht _ rfl)]; exact q
 ·
  rw [aI (ne _ I.free)]; exact I.free
 ·
  rw [aI (ne _ (I.freeC x c e))]; exact I.freeC x c e
 ·
  obtain ⟨e,n,r⟩:=I.pin p hp
  exact ⟨e,by rw [aI (ne _ n)]; exact n,r⟩
 ·
  by_cases hb:b=a
  ·
   subst hb
   rw [bT] at e
   cases e
   exact nw.stay (fun c v _ q=>q) (fun c q=>by rw [aI (no c _ q)]; exact q) fun c xs q=>by rw [aI (nt c xs q)]; exact q
  ·
   rw [aI hb] at e
   exact (I.hok b z e).stay (fun c v _ q=>q) (fun c q=>by rw [aI (no c _ q)]; exact q) fun c xs q=>by rw [aI (nt c xs q)]; exact q
theorem Inv.freezeL {a:Addr} {xs:List V} (I:Inv X pins σ H s) (h:H a=some (.lst xs)):∃ o,Inv X pins σ (upd H a (.frz o (.lst xs))) s:=by
 obtain ⟨z,its,n,r,e⟩:=id (I.hok a _ h)
 exact ⟨_,I.reword h (fun q=>q) (fun _ q=>nomatch q) (fun _ q=>nomatch q) ⟨e,z,its,n,r,e⟩ (fun _ _ _ q=>nomatch q)⟩
end
section
variable {K:PySem.W.Frag} {Pr H H':Hp} {σ τ w:St} {ρ μ lam ρ':Ev}
theorem REnv.new (E:REnv K Pr H σ ρ) {p:Addr} {o:HO} (h:H p=none):REnv K Pr (upd H p o) σ ρ:=by
 have k:∀ b u,H b=some u→upd H p o b=some u:=fun b u e=>by rw [aI (ca e h)]; exact e
 exact ⟨fun b u e=>k b u (E.sub b u e),E.nd,E.off,Paired.impMem E.sl fun l hl s q=>q.pres (fun b u _ e=>k b u e) l fun a e=>by
  obtain ⟨vs,e⟩:=E.at_own (fu.mpr ⟨l,hl,e⟩)
  rw [k _ _ e,e]⟩
theorem Reps.new {vs:List V} {ds:List D} (r:Reps K H vs ds) {p:Addr} {o:HO} (h:H p=none):Reps K (upd H p o) vs ds:=r.pres fun b u _ e=>by rw [aI (ca e h)]; exact e
theorem Rep.new {v:V} {d:D} (r:Rep K H v d) {p:Addr} {o:HO} (h:H p=none):Rep K (upd H p o) v d:=r.pres fun b u _ e=>by rw [aI (ca e h)]; exact e
theorem owns_cons_un:owns (.un::ρ)=owns ρ:=rfl
theorem aG {a:Addr} {xs:List D}:owns (.own a xs::ρ)=a::owns ρ:=rfl
theorem REnv.cons_d (E:REnv K Pr H σ ρ) {v:V} {x:D} (r:Rep K H v x):REnv K Pr H (some v::σ) (.d x::ρ):=⟨E.sub,E.nd,E.off,.cons ⟨v,rfl,r⟩ E.sl⟩
theorem REnv.cons_un (E:REnv K Pr H σ ρ) {v:Option V}:REnv K Pr H (v::σ) (.un::ρ):=⟨E.sub,E.nd,E.off,.cons True.intro E.sl⟩
theorem REnv.cons_own (E:REnv K Pr H σ ρ) {p:Addr} {vs:List V} {xs:List D} (h:H p=none) (r:Reps K H vs xs):REnv K Pr (upd H p (.lst vs)) (some (.ref p)::σ) (.own p xs::ρ):=by
 have E':=E.new (o:=.lst vs) h
 refine ⟨E'.sub,?_,fun a ha=>?_,.cons ⟨rfl,vs,bT,r.new h⟩ E'.sl⟩
 ·
  rw [aG]
  refine List.nodup_cons.mpr ⟨fun hm=>?_,E.nd⟩
  obtain ⟨us,e⟩:=E.at_own hm
  rw [h] at e; cases e
 ·
  rw [aG] at ha
  rcases List.mem_cons.mp ha with rfl | ha
  ·
   cases q:Pr a with
   | none=>rfl
   | some u=>rw [E.sub a u q] at h; cases h
  ·
   exact E.off a ha
theorem REnv.cons_tup (E:REnv K Pr H σ ρ) {p:Addr} {vs:List V} {xs:List D} (h:H p=none) (r:Reps K H vs xs):REnv K Pr (upd H p (.tup vs)) (some (.ref p)::σ) (.d (.tup xs)::ρ) :=
 (E.new h).cons_d (.tup (SqT.of bT) (r.new h))
theorem REnv.freeze (E:REnv K Pr H σ (.own a xs::ρ)) {vs:List V} (h:H a=some (.lst vs)) (o:Obj):REnv K Pr (upd H a (.frz o (.lst vs))) σ (.d (.lst xs)::ρ):=by
 have pa:Pr a=none:=E.off a (by rw [aG]; exact List.mem_cons_self)
 have nd:=E.nd
 rw [aG] at nd
 obtain ⟨hn,nd⟩:=List.nodup_cons.mp nd
 have p:Pres H (upd H a (.frz o (.lst vs))):=fun b u pu e=>by
  rw [aI]; exact e
  rintro rfl
  rw [h] at e; cases e; exact pu
 refine ⟨fun b u e=>?_,nd,fun b hb=>E.off b (by rw [aG]; exact List.mem_cons_of_mem _ hb),?_⟩
 ·
  rw [aI]; exact E.sub b u e
  rintro rfl
  rw [pa] at e; cases e
 ·
  have sl:=E.sl
  cases sl with
  | cons q t =>
   obtain ⟨e,us,e2,r⟩:=q
   rw [h] at e2; cases e2
   refine .cons ⟨.ref a,e,.lst (.inl ⟨o,bT⟩) (r.pres p)⟩ (Paired.impMem t fun l hl s z=>z.pres p l fun b hbm=>?_)
   rw [aI]
   rintro rfl
   exact hn (fu.mpr ⟨l,hl,hbm⟩)
theorem aA (l:L) (ρ:Ev):owns (l::ρ)=bz l++owns ρ:=rfl
theorem owns_takeL {k:L}:∀ {ρ:Ev} {i:Nat} {l:L},ρ[i]?=some k→bz l=[]→(owns ρ).Perm (bz k++owns (ρ.set i l))
 | [],_,_,h,_=>by simp at h
 | _::ρ,0,l,h,hl=>by
  simp at h; subst h
  show (owns (_::ρ)).Perm (_++owns (l::ρ))
  rw [aA,aA,hl]
  exact List.Perm.refl _
 | m::ρ,i+1,l,h,hl=>by
  have ih:=owns_takeL (i:=i) (ρ:=ρ) (l:=l) (by simpa using h) hl
  show (owns (m::ρ)).Perm (bz k++owns (m::ρ.set i l))
  rw [aA,aA]
  refine (List.Perm.append_left _ ih).trans ?_
  rw [← List.append_assoc,← List.append_assoc]
  exact List.Perm.append_right _ List.perm_append_comm
theorem owns_take {a:Addr} {xs:List D} {ρ:Ev} {i:Nat} {l:L} (h:ρ[i]?=some (.own a xs)) (hl:bz l=[]):(owns ρ).Perm (a::owns (ρ.set i l)):=owns_takeL h hl
theorem owns_put {ρ:Ev} {i:Nat} (l:L) (h:ρ[i]?=some .un):(owns (ρ.set i l)).Perm (bz l++owns ρ):=by
 have hi:i < ρ.length:=(List.getElem?_eq_some_iff.mp h).1
 have pm:=owns_takeL (ρ:=ρ.set i l) (i:=i) (k:=l) (l:=.un) (by simp [hi]) rfl
 rw [List.set_set] at pm
 have e2:ρ.set i .un=ρ:=by
  have:=List.set_getElem_self (as:=ρ) (i:=i) hi
  have e3:ρ[i]=.un:=(List.getElem?_eq_some_iff.mp h).2
  rw [e3] at this; exact this
 rw [e2] at pm
 exact pm
theorem REnv.outL (E:REnv K Pr H σ ρ) {i:Nat} {k:L} {s:Option V} (h:ρ[i]?=some k) (hs:σ[i]?=some s):REnv K Pr H (s::σ) (k::ρ.set i .un):=by
 have pm:=owns_takeL (l:=.un) h rfl
 obtain ⟨s',hs',q⟩:=Paired.get2 E.sl h
 rw [hs] at hs'
 cases hs'
 refine ⟨E.sub,?_,fun b hb=>E.off b (pm.mem_iff.mpr (by rw [aA] at hb; exact hb)),.cons q (Paired.set_r i E.sl fun _ _=>by simp only [bB])⟩
 rw [aA]; exact pm.nodup_iff.mp E.nd
theorem REnv.out (E:REnv K Pr H σ ρ) {i:Nat} {a:Addr} {xs:List D} (h:ρ[i]?=some (.own a xs)):REnv K Pr H (some (.ref a)::σ) (.own a xs::ρ.set i .un):=by
 have pm:=owns_take (l:=.un) h rfl
 obtain ⟨s,hs,q⟩:=Paired.get2 E.sl h
 refine ⟨E.sub,?_,fun b hb=>E.off b (pm.mem_iff.mpr (by rw [aG] at hb; exact hb)),.cons ?_ (Paired.set_r i E.sl fun _ _=>by simp only [bB])⟩
 ·
  rw [aG]; exact pm.nodup_iff.mp E.nd
 ·
  obtain ⟨_,r⟩:=q
  exact ⟨rfl,r⟩
theorem REnv.back {v:Option V} {l:L} (E:REnv K Pr H (v::σ) (l::ρ)) {i:Nat} (h:ρ[i]?=some .un) (hs:σ[i]?=some v):REnv K Pr H σ (ρ.set i l):=by
 have sl:=E.sl
 cases sl with
 | cons q t =>
  have e1:ρ.set i l=(ρ.set i l):=rfl
  refine ⟨E.sub,?_,fun b hb=>?_,Paired.set_r i t fun a e=>by rw [hs] at e; cases e; exact q⟩
  ·
   exact (owns_put l h).nodup_iff.mpr E.nd
  ·
   exact E.off b ((owns_put l h).mem_iff.mp hb)
theorem REnv.write (E:REnv K Pr H σ (.own a xs::ρ)) {vs:List V} {ys:List D} (r:Reps K H vs ys):REnv K Pr (upd H a (.lst vs)) σ (.own a ys::ρ):=by
 have pa:Pr a=none:=E.off a (by rw [aG]; exact List.mem_cons_self)
 have nd:=E.nd
 rw [aG] at nd
 obtain ⟨hn,nd'⟩:=List.nodup_cons.mp nd
 obtain ⟨us,ha⟩:=E.at_own (a:=a) (by rw [aG]; exact List.mem_cons_self)
 have p:Pres H (upd H a (.lst vs)):=fun b u pu e=>by
  rw [aI]; exact e
  rintro rfl
  rw [ha] at e; cases e; exact pu
 refine ⟨fun b u e=>?_,nd,fun b hb=>E.off b hb,?_⟩
 ·
  rw [aI]; exact E.sub b u e
  rintro rfl
  rw [pa] at e; cases e
 ·
  have sl:=E.sl
  cases sl with
  | cons q t =>
   obtain ⟨e,_⟩:=q
   refine .cons ⟨e,vs,bT,r.pres p⟩ (Paired.impMem t fun l hl s z=>z.pres p l fun b hbm=>?_)
   rw [aI]
   rintro rfl
   exact hn (fu.mpr ⟨l,hl,hbm⟩)
end
end L2
namespace L2
open PySem PySem.Spec PyProof.Rows
abbrev W (α:Type):=Ev→(α→Ev→Prop)→Prop
inductive Fl where
 | nx | bk | ct | rt (r:L)
def EL (X:Cx) (pins:List (Addr×Obj)) (σ:St) (Pr:Hp) (post:L→Ev→Prop) (u:Value) (s':Shared):Prop :=
 ∃ v H' r ρ',Inv X pins σ H' s'∧RelV v u∧REnv X.K Pr H' (some v::σ) (r::ρ')∧post r ρ'
def PL (X:Cx) (e:Expr) (t:W L):Prop :=
 ∀ (pins:List (Addr×Obj)) (s:Shared) (σ:St) (H Pr:Hp) (ρ:Ev) (post:L→Ev→Prop),Inv X pins σ H s→REnv X.K Pr H σ ρ→t ρ post→wpAny (model X.prog X.w) X.A (eval e X.env) (EL X pins σ Pr post) X.xe s
def EB (X:Cx) (pins:List (Addr×Obj)) (σ:St) (Pr:Hp) (post:Bool→Ev→Prop) (b:Bool) (s':Shared):Prop :=
 ∃ H' ρ',Inv X pins σ H' s'∧REnv X.K Pr H' σ ρ'∧post b ρ'
def PB (X:Cx) (e:Expr) (t:W Bool):Prop :=
 ∀ (pins:List (Addr×Obj)) (s:Shared) (σ:St) (H Pr:Hp) (ρ:Ev) (post:Bool→Ev→Prop),Inv X pins σ H s→REnv X.K Pr H σ ρ→t ρ post→wpAny (model X.prog X.w) X.A (isTrue e X.env (eval e X.env)) (EB X pins σ Pr post) X.xe s
def EA (X:Cx) (pins:List (Addr×Obj)) (σ:St) (Pr:Hp) (bs:List (Option Nat)) (post:List L→Ev→Prop) (us:List Value) (s':Shared):Prop :=
 ∃ vs H' ls ρ',Inv X pins σ H' s'∧Vals vs us∧vs.length=ls.length∧vs.length=bs.length∧REnv X.K Pr H' (vs.map some++σ) (ls++ρ')∧(∀ (k i:Nat),bs[k]?=some (some i)→ls[k]?=some L.un∧∃ v,vs[k]?=some v∧σ[i]?=some (some v))∧post ls ρ'
def PAL (X:Cx) (es:List Expr) (bs:List (Option Nat)) (t:W (List L)):Prop :=
 ∀ (pos:Pos) (pins:List (Addr×Obj)) (s:Shared) (σ:St) (H Pr:Hp) (ρ:Ev) (post:List L→Ev→Prop),Inv X pins σ H s→REnv X.K Pr H σ ρ→t ρ post →
  wpAny (model X.prog X.w) X.A (spliced (backTo pos (starEach es X.env))) (EA X pins σ Pr bs post) X.xe s
def SM (X:Cx) (pins:List (Addr×Obj)) (Pr:Hp) (post:Fl→Ev→Prop) (f:Flow) (s':Shared):Prop :=
 match f with
 | .next=>∃ σ' H' ρ',Inv X pins σ' H' s'∧REnv X.K Pr H' σ' ρ'∧post .nx ρ'
 | .brk=>∃ σ' H' ρ',Inv X pins σ' H' s'∧REnv X.K Pr H' σ' ρ'∧post .bk ρ'
 | .cont=>∃ σ' H' ρ',Inv X pins σ' H' s'∧REnv X.K Pr H' σ' ρ'∧post .ct ρ'
 | .ret u=>∃ v σ' H' r ρ' τ,Inv X pins σ' H' s'∧RelV v u∧REnv X.K Pr H' (some v::τ) (r::ρ')∧post (.rt r) ρ'
def PM (X:Cx) (st:Stmt) (t:W Fl):Prop :=
 ∀ (pins:List (Addr×Obj)) (s:Shared) (σ:St) (H Pr:Hp) (ρ:Ev) (post:Fl→Ev→Prop),Inv X pins σ H s→REnv X.K Pr H σ ρ→t ρ post→wpAny (model X.prog X.w) X.A (exec st X.env) (SM X pins Pr post) X.xe s
def PMs (X:Cx) (st:List Stmt) (t:W Fl):Prop :=
 ∀ (pins:List (Addr×Obj)) (s:Shared) (σ:St) (H Pr:Hp) (ρ:Ev) (post:Fl→Ev→Prop),Inv X pins σ H s→REnv X.K Pr H σ ρ→t ρ post→wpAny (model X.prog X.w) X.A (execs st X.env) (SM X pins Pr post) X.xe s
section
variable {X:Cx} {e a b c:Expr} {es:List Expr} {pos:Pos} {ta tb tc:W L} {tA tB:W Bool}
theorem PL.of {t:TE} {u:W L} (h:PE X e t) (q:∀ σ H Pr ρ post,REnv X.K Pr H σ ρ→u ρ post→t σ H fun v H'=>∃ r ρ',REnv X.K Pr H' (some v::σ) (r::ρ')∧post r ρ'):PL X e u :=
 fun pins s σ H Pr ρ post I E hu=>thn (h pins s σ H _ I (q σ H Pr ρ post E hu)) fun u s1 ⟨v,H1,I1,r1,r,ρ',E1,p⟩=>⟨v,H1,r,ρ',I1,r1,E1,p⟩
mutual
def bC:L→Option D
 | .un=>none
 | .d x=>some x
 | .own _ xs=>some (.lst xs)
 | .bx none ls=>(bZ ls).map .tup
 | .bx (some _) ls=>(bZ ls).map .lst
def bZ:List L→Option (List D)
 | []=>some []
 | l::ls=>match bC l,bZ ls with
  | some x,some xs=>some (x::xs)
  | _,_=>none
end
def cy:Option D→(D→Prop)→Prop
 | some x,k=>k x
 | none,_=>False
theorem isSome'_is {o:Option D} {k:D→Prop} (h:cy o k):∃ x,o=some x∧k x:=by
 cases o with
 | some x=>exact ⟨x,rfl,h⟩
 | none=>exact h.elim
def toDB (a:Option Addr) (ls:List L) (k:D→Prop):Prop:=cy (bC (.bx a ls)) k
def toD:L→(D→Prop)→Prop
 | .un,_=>False
 | .d x,k=>k x
 | .own _ xs,k=>k (.lst xs)
 | .bx a ls,k=>toDB a ls k
theorem toDB_is {a:Option Addr} {ls:List L} {k:D→Prop} (h:toDB a ls k):∃ x,bC (.bx a ls)=some x∧k x:=isSome'_is h
def eraK (ls:List L) (k:List D→Prop):Prop:=∃ xs,bZ ls=some xs∧k xs
theorem toDB_t (ls:List L) (k:D→Prop):toDB none ls k=eraK ls fun xs=>k (.tup xs):=by
 unfold toDB eraK
 simp only [bC]
 cases bZ ls with
 | none=>simp [cy]
 | some xs=>simp [cy]
theorem toDB_o (a:Addr) (ls:List L) (k:D→Prop):toDB (some a) ls k=eraK ls fun xs=>k (.lst xs):=by
 unfold toDB eraK
 simp only [bC]
 cases bZ ls with
 | none=>simp [cy]
 | some xs=>simp [cy]
theorem eraK_nil (k:List D→Prop):eraK [] k=k []:=by
 unfold eraK
 simp [bZ]
theorem toD_era (l:L) (k:D→Prop):toD l k=∃ x,bC l=some x∧k x:=by
 cases l with
 | un=>simp [toD,bC]
 | d x=>simp [toD,bC]
 | own a xs=>simp [toD,bC]
 | bx a ls =>
  show cy _ k=_
  cases bC (.bx a ls) with
  | none=>simp [cy]
  | some x=>simp [cy]
theorem eraK_cons (l:L) (ls:List L) (k:List D→Prop):eraK (l::ls) k=toD l fun x=>eraK ls fun xs=>k (x::xs):=by
 rw [toD_era]
 unfold eraK
 simp only [bZ]
 cases bC l with
 | none=>simp
 | some x =>
  cases bZ ls with
  | none=>simp
  | some xs=>simp
theorem cN {K:PySem.W.Frag} {H:Hp}:∀ {vs:List V} {ls:List L},c9 K H vs ls↔Paired (bB K H) (vs.map some) ls
 | [],[]=>⟨fun _=>.nil,fun _=>by simp only [c9]⟩
 | v::vs,l::ls=>by
  simp only [c9,List.map_cons]
  constructor
  ·
   rintro ⟨w,us,e,h1,h2⟩
   cases e
   exact .cons h1 (cN.mp h2)
  ·
   intro h
   cases h with
   | cons q t=>exact ⟨v,vs,rfl,q,cN.mpr t⟩
 | [],l::ls=>by
  simp only [c9,List.map_nil]
  constructor
  ·
   rintro ⟨w,us,e,_⟩; cases e
  ·
   intro h; cases h
 | v::vs,[]=>by
  simp only [c9,List.map_cons]
  constructor
  ·
   intro h; cases h
  ·
   intro h; cases h
theorem reps_at {K:PySem.W.Frag} {H:Hp}:∀ {vs:List V} {xs:List D},Paired (bB K H) (vs.map some) (xs.map .d)→Reps K H vs xs
 | [],[],_=>.nil
 | v::vs,x::xs,h=>by
  simp only [List.map_cons] at h
  cases h with
  | cons q t =>
   simp only [bB] at q
   obtain ⟨w,e,r⟩:=q
   cases e
   exact .cons r (reps_at t)
 | [],_::_,h=>by simp only [List.map_cons,List.map_nil] at h; cases h
 | _::_,[],h=>by simp only [List.map_cons,List.map_nil] at h; cases h
theorem c9.len {K:PySem.W.Frag} {H:Hp} {vs:List V} {ls:List L} (h:c9 K H vs ls):vs.length=ls.length:=by
 have:=Paired.length (cN.mp h)
 simpa using this
theorem fv:∀ {ls:List L} {xs:List D},bZ ls=some xs→xs.length=ls.length
 | [],_,h=>by simp [bZ] at h; subst h; rfl
 | l::ls,xs,h=>by
  simp only [bZ] at h
  split at h
  ·
   rename_i x ys h1 h2
   cases h
   simp [fv h2]
  ·
   cases h
theorem REnv.openT {K:PySem.W.Frag} {Pr H:Hp} {σ:St} {ρ:Ev} {v:Option V} {ls:List L} (E:REnv K Pr H (v::σ) (.bx none ls::ρ)):∃ a vs,v=some (.ref a)∧SqT K H a vs∧vs.length=ls.length∧REnv K Pr H (vs.map some++σ) (ls++ρ):=by
 have sl:=E.sl
 cases sl with
 | cons q t =>
  simp only [bB] at q
  obtain ⟨a,vs,e,h,r⟩:=q
  have ow:owns (.bx none ls::ρ)=owns (ls++ρ):=by
   rw [aA,aw]
   simp only [bz,Option.toList,List.nil_append,di]
  exact ⟨a,vs,e,h,r.len,E.sub,by rw [← ow]; exact E.nd,fun b hb=>E.off b (by rw [ow]; exact hb),Paired.app (cN.mp r) t⟩
theorem REnv.openO {K:PySem.W.Frag} {Pr H:Hp} {σ:St} {ρ:Ev} {v:Option V} {a:Addr} {ls:List L} (E:REnv K Pr H (v::σ) (.bx (some a) ls::ρ)):∃ vs,v=some (.ref a)∧H a=some (.lst vs)∧vs.length=ls.length∧a∉owns (ls++ρ)∧Pr a=none∧REnv K Pr H (vs.map some++σ) (ls++ρ):=by
 have sl:=E.sl
 cases sl with
 | cons q t =>
  simp only [bB] at q
  obtain ⟨e,vs,h,r⟩:=q
  have ow:owns (.bx (some a) ls::ρ)=a::owns (ls++ρ):=by
   rw [aA,aw]
   simp only [bz,Option.toList,List.cons_append,List.nil_append,di]
  have nd:=E.nd
  rw [ow] at nd
  obtain ⟨n1,n2⟩:=List.nodup_cons.mp nd
  exact ⟨vs,e,h,r.len,n1,E.off a (by rw [ow]; exact List.mem_cons_self),E.sub,n2,fun b hb=>E.off b (by rw [ow]; exact List.mem_cons_of_mem _ hb),Paired.app (cN.mp r) t⟩
def Frozen (H H':Hp) (S:List Addr):Prop:=Pres H H'∧(∀ b,b∉S→H' b=H b)∧∀ a∈S,∀ vs,H a=some (.lst vs)→∃ o,H' a=some (.frz o (.lst vs))
theorem Frozen.refl (H:Hp):Frozen H H []:=⟨fun _ _ _ e=>e,fun _ _=>rfl,fun _ h=>by simp at h⟩
mutual
theorem frzL:∀ (l:L) {pins:List (Addr×Obj)} {σ0:St} {s:Shared} {Pr H:Hp} {σ:St} {ρ:Ev} {v:Option V} {x:D},Inv X pins σ0 H s→REnv X.K Pr H (v::σ) (l::ρ)→bC l=some x→∃ H',Inv X pins σ0 H' s∧REnv X.K Pr H' (v::σ) (.d x::ρ)∧Frozen H H' (bz l)
 | .un,_,_,_,_,_,_,_,_,_,_,_,h=>by simp [bC] at h
 | .d y,_,_,_,_,_,_,_,_,_,I,E,h=>by
  simp only [bC,Option.some.injEq] at h
  subst h
  exact ⟨_,I,E,Frozen.refl _⟩
 | .own a xs,_,_,_,_,H,σ,ρ,v,_,I,E,h=>by
  simp only [bC,Option.some.injEq] at h
  subst h
  have sl:=E.sl
  cases sl with
  | cons q t =>
   simp only [bB] at q
   obtain ⟨e0,vs,ha,r⟩:=q
   obtain ⟨o,I'⟩:=I.freezeL ha
   refine ⟨_,I',E.freeze ha o,fun b u pu eb=>?_,fun b hb=>?_,fun b hb vs' eb=>?_⟩
   ·
    rw [aI]; exact eb
    rintro rfl
    rw [ha] at eb; cases eb; exact pu
   ·
    rw [aI]
    rintro rfl
    exact hb (by simp [bz])
   ·
    have e:b=a:=by simpa [bz] using hb
    subst e
    rw [ha] at eb; cases eb
    exact ⟨o,bT⟩
 | .bx none ls,_,_,_,Pr,H,σ,ρ,v,x,I,E,h=>by
  simp only [bC,Option.map_eq_some_iff] at h
  obtain ⟨xs,h,rfl⟩:=h
  obtain ⟨a,vs,rfl,ha,hl,E1⟩:=E.openT
  obtain ⟨H',I',E',F⟩:=frzLs ls hl I E1 h
  have hxl:=fv h
  obtain ⟨s1,s2⟩:=Paired.unapp (by simp [hl,hxl]) E'.sl
  refine ⟨H',I',(E'.drop (by simp [hl,hxl])).cons_d (.tup (ha.pres F.1) (reps_at s1)),F.1,fun b hb=>F.2.1 b ?_,fun b hb=>F.2.2 b ?_⟩
  ·
   simpa [bz,di] using hb
  ·
   simpa [bz,di] using hb
 | .bx (some a) ls,_,_,_,Pr,H,σ,ρ,v,x,I,E,h=>by
  simp only [bC,Option.map_eq_some_iff] at h
  obtain ⟨xs,h,rfl⟩:=h
  obtain ⟨vs,rfl,ha,hl,hn,hp,E1⟩:=E.openO
  obtain ⟨H',I',E',F⟩:=frzLs ls hl I E1 h
  have hxl:=fv h
  have hal:a∉owns ls:=fun z=>hn (by rw [aw]; exact List.mem_append_left _ z)
  have haρ:a∉owns ρ:=fun z=>hn (by rw [aw]; exact List.mem_append_right _ z)
  have ha':H' a=some (.lst vs):=(F.2.1 a hal).trans ha
  obtain ⟨s1,s2⟩:=Paired.unapp (by simp [hl,hxl]) E'.sl
  have E2:=E'.drop (by simp [hl,hxl])
  have E3:REnv X.K Pr H' (some (.ref a)::σ) (.own a xs::ρ):=by
   refine ⟨E2.sub,?_,fun b hb=>?_,.cons ?_ E2.sl⟩
   ·
    rw [aG]; exact List.nodup_cons.mpr ⟨haρ,E2.nd⟩
   ·
    rw [aG] at hb
    rcases List.mem_cons.mp hb with z | z
    ·
     rw [z]; exact hp
    ·
     exact E2.off b z
   ·
    unfold bB
    exact ⟨rfl,vs,ha',reps_at s1⟩
  obtain ⟨o,I2⟩:=I'.freezeL ha'
  refine ⟨_,I2,E3.freeze ha' o,fun b u pu e=>?_,fun b hb=>?_,fun b hb vs' eb=>?_⟩
  ·
   rw [aI]; exact F.1 b u pu e
   rintro rfl
   rw [ha] at e; cases e; exact pu
  ·
   have hb':b≠a∧b∉owns ls:=by simpa [bz,di,not_or] using hb
   rw [aI hb'.1]
   exact F.2.1 b hb'.2
  ·
   by_cases hba:b=a
   ·
    subst hba
    rw [ha] at eb; cases eb
    exact ⟨o,bT⟩
   ·
    have hb':b∈owns ls:=by
     rcases (by simpa [bz,di] using hb:b=a∨b∈owns ls) with z | z
     ·
      exact absurd z hba
     ·
      exact z
    rw [aI hba]
    exact F.2.2 b hb' vs' eb
theorem frzLs:∀ (ls:List L) {pins:List (Addr×Obj)} {σ0:St} {s:Shared} {Pr H:Hp} {σ:St} {ρ:Ev} {vs:List V} {xs:List D},vs.length=ls.length→Inv X pins σ0 H s→REnv X.K Pr H (vs.map some++σ) (ls++ρ)→bZ ls=some xs→∃ H',Inv X pins σ0 H' s∧REnv X.K Pr H' (vs.map some++σ) (xs.map .d++ρ)∧Frozen H H' (owns ls)
 | [],_,_,_,_,_,_,_,vs,xs,hl,I,E,h=>by
  simp only [bZ,Option.some.injEq] at h
  subst h
  cases vs with
  | nil=>exact ⟨_,I,E,Frozen.refl _⟩
  | cons _ _=>simp at hl
 | l::ls,_,_,_,Pr,H,σ,ρ,vs,xs,hl,I,E,h=>by
  simp only [bZ] at h
  split at h
  rotate_left
  ·
   cases h
  rename_i x ys h1 h2
  cases h
  cases vs with
  | nil=>simp at hl
  | cons v vs =>
   have hl':vs.length=ls.length:=by simpa using hl
   obtain ⟨H1,I1,E1,F1⟩:=frzL l I E h1
   have E2:REnv X.K (a0 H1 (ls++ρ)) H1 (vs.map some++σ) (ls++ρ):=(E1.drop (τ:=[some v]) (lam:=[.d x]) rfl).wide
   obtain ⟨H2,I2,E3,F2⟩:=frzLs ls hl' I1 E2 h2
   have hyl:=fv h2
   have E4:REnv X.K Pr H2 (some v::(vs.map some++σ)) (.d x::(ys.map .d++ρ)):=by
    have z:=REnv.step (τ:=[some v]) (lam:=[.d x]) (w:=[]) (μ:=[]) (σ':=vs.map some++σ) (ρ':=ys.map .d++ρ) E1 rfl E3 rfl
    exact z
   refine ⟨H2,I2,E4,fun b u pu e=>F2.1 b u pu (F1.1 b u pu e),fun b hb=>?_,fun b hb vs' eb=>?_⟩
   ·
    rw [aA] at hb
    rw [F2.2.1 b (fun z=>hb (List.mem_append_right _ z)),F1.2.1 b (fun z=>hb (List.mem_append_left _ z))]
   ·
    rw [aA] at hb
    rcases List.mem_append.mp hb with z | z
    ·
     obtain ⟨o,eo⟩:=F1.2.2 b z vs' eb
     exact ⟨o,F2.1 b _ True.intro eo⟩
    ·
     have hn:b∉bz l:=fun z'=>by
      have nd:=E.nd
      rw [List.cons_append,aA,aw] at nd
      exact (List.nodup_append.mp nd).2.2 b z' b (List.mem_append_left _ z) rfl
     exact F2.2.2 b z vs' ((F1.2.1 b hn).trans eb)
end
theorem EL.frz {pins:List (Addr×Obj)} {σ:St} {Pr:Hp} {post:D→Ev→Prop} {u:Value} {s':Shared} (h:EL X pins σ Pr (fun r ρ=>toD r fun x=>post x ρ) u s') :
  ∃ v H' x ρ',Inv X pins σ H' s'∧RelV v u∧REnv X.K Pr H' (some v::σ) (.d x::ρ')∧post x ρ':=by
 obtain ⟨v,H',r,ρ',I,rv,E,p⟩:=h
 cases r with
 | un=>exact p.elim
 | d x=>exact ⟨v,H',x,ρ',I,rv,E,p⟩
 | own a xs =>
  obtain ⟨H2,I2,E2,_⟩:=frzL (.own a xs) I E rfl
  exact ⟨v,H2,.lst xs,ρ',I2,rv,E2,p⟩
 | bx a ls =>
  obtain ⟨x,ex,p⟩:=toDB_is p
  obtain ⟨H2,I2,E2,_⟩:=frzL (.bx a ls) I E ex
  exact ⟨v,H2,x,ρ',I2,rv,E2,p⟩
def wFrz (t:W L):W L:=fun ρ post=>t ρ fun r ρ1=>toD r fun x=>post (.d x) ρ1
theorem am {t:W L} (h:PL X e t):PL X e (wFrz t):=fun pins s σ H Pr ρ post I E ht =>
 thn (h pins s σ H Pr ρ _ I E ht) fun u s1 q=>by
  obtain ⟨v,H',x,ρ',I',rv,E',p⟩:=EL.frz (post:=fun x ρ=>post (.d x) ρ) q
  exact ⟨v,H',.d x,ρ',I',rv,E',p⟩
theorem REnv.head_d {K:PySem.W.Frag} {Pr H:Hp} {v:Option V} {σ:St} {x:D} {ρ:Ev} (E:REnv K Pr H (v::σ) (.d x::ρ)):∃ w,v=some w∧Rep K H w x:=by
 have sl:=E.sl
 cases sl with
 | cons q t=>exact q
theorem REnv.tail {K:PySem.W.Frag} {Pr H:Hp} {v:Option V} {σ:St} {l:L} {ρ:Ev} (E:REnv K Pr H (v::σ) (l::ρ)):REnv K Pr H σ ρ:=REnv.drop (τ:=[v]) (lam:=[l]) E rfl
theorem two {pins:List (Addr×Obj)} {s:Shared} {σ:St} {H Pr:Hp} {ρ:Ev} {R:D→D→Ev→Prop} (ha:PL X a ta) (hb:PL X b tb) (I:Inv X pins σ H s) (E:REnv X.K Pr H σ ρ)
  (h:ta ρ fun x ρ1=>toD x fun dx=>tb ρ1 fun y ρ2=>toD y fun dy=>R dx dy ρ2) {α:Type} {Q:α→Shared→Prop} {f:Value→Value→Sem α}
  (hf:∀ v u s2 x y H2 dx dy ρ2,Inv X pins σ H2 s2→RelV x v→RelV y u→REnv X.K Pr H2 (some y::some x::σ) (.d dy::.d dx::ρ2)→Rep X.K H2 x dx→Rep X.K H2 y dy→R dx dy ρ2→wpAny (model X.prog X.w) X.A (f v u) Q X.xe s2) :
  wpAny (model X.prog X.w) X.A (eval a X.env) (fun v s₁=>wpAny (model X.prog X.w) X.A (eval b X.env) (fun u s₂=>wpAny (model X.prog X.w) X.A (f v u) Q X.xe s₂) X.xe s₁) X.xe s:=by
 refine thn (ha pins s σ H Pr ρ _ I E h) fun v s1 q=>?_
 obtain ⟨x,H1,dx,ρ1,I1,r1,E1,q1⟩:=EL.frz (post:=fun dx ρ1=>tb ρ1 fun y ρ2=>toD y fun dy=>R dx dy ρ2) q
 refine thn (hb pins s1 σ H1 _ ρ1 _ I1 E1.tail.wide q1) fun u s2 q=>?_
 obtain ⟨y,H2,dy,ρ2,I2,r2,E2,q2⟩:=EL.frz (post:=fun dy ρ2=>R dx dy ρ2) q
 have E3:REnv X.K Pr H2 (some y::some x::σ) (.d dy::.d dx::ρ2):=REnv.step (τ:=[some x]) (lam:=[.d dx]) (w:=[some y]) (μ:=[.d dy]) E1 rfl E2 rfl
 obtain ⟨_,e1,p1⟩:=E3.head_d
 obtain ⟨_,e2,p2⟩:=E3.tail.head_d
 cases e1
 cases e2
 exact hf v u s2 x y H2 dx dy ρ2 I2 r1 r2 E3 p2 p1 q2
abbrev Op2:=D→D→(L→Prop)→Prop
def OpD (X:Cx) (f:Value→Value→Sem Value) (op:Op2):Prop :=
 ∀ (pins:List (Addr×Obj)) (s:Shared) (σ:St) (H Pr:Hp) (ρ:Ev) (x y:V) (v u:Value) (dx dy:D) (post:L→Prop),Inv X pins σ H s→RelV x v→RelV y u→REnv X.K Pr H σ ρ→Rep X.K H x dx→Rep X.K H y dy→op dx dy post →
  wpAny (model X.prog X.w) X.A (f v u) (fun w s'=>∃ z H' r,Inv X pins σ H' s'∧RelV z w∧REnv X.K Pr H' (some z::σ) (r::ρ)∧post r) X.xe s
theorem OpD.of {f:Value→Value→Sem Value} {r:R2} {op:Op2} (h:OpR X f r) (q:∀ σ H Pr ρ x y dx dy post,REnv X.K Pr H σ ρ→Rep X.K H x dx→Rep X.K H y dy→op dx dy post→r x y H fun z H'=>∃ r,REnv X.K Pr H' (some z::σ) (r::ρ)∧post r):OpD X f op :=
 fun pins s σ H Pr ρ x y v u dx dy post I rx ry E px py ho=>thn (h pins s σ H x y v u _ I rx ry (q σ H Pr ρ x y dx dy post E px py ho)) fun w s' ⟨z,H',I',rz,r,E',p⟩=>⟨z,H',r,I',rz,E',p⟩
theorem OpD.or {f:Value→Value→Sem Value} {o1 o2:Op2} (h1:OpD X f o1) (h2:OpD X f o2):OpD X f (fun x y p=>o1 x y p∨o2 x y p) :=
 fun pins s σ H Pr ρ x y v u dx dy post I rx ry E px py ho=>ho.elim (h1 pins s σ H Pr ρ x y v u dx dy post I rx ry E px py) (h2 pins s σ H Pr ρ x y v u dx dy post I rx ry E px py)
theorem OpD.imp {f:Value→Value→Sem Value} {o1 o2:Op2} (h1:OpD X f o1) (h:∀ x y p,o2 x y p→o1 x y p):OpD X f o2 :=
 fun pins s σ H Pr ρ x y v u dx dy post I rx ry E px py ho=>h1 pins s σ H Pr ρ x y v u dx dy post I rx ry E px py (h _ _ _ ho)
def wBin (op:Op2) (ta tb:W L):W L:=fun ρ post=>ta ρ fun x ρ1=>toD x fun dx=>tb ρ1 fun y ρ2=>toD y fun dy=>op dx dy fun r=>post r ρ2
theorem ao {op:Operator} {o:Op2} (ho:OpD X (binaryOp op) o) (ha:PL X a ta) (hb:PL X b tb):PL X (.BinOp a op b pos) (wBin o ta tb):=fun pins s σ H Pr ρ post I E h =>
 wpAny_BinOp (two (R:=fun dx dy ρ2=>o dx dy fun r=>post r ρ2) ha hb I E h fun v u s2 x y H2 dx dy ρ2 I2 r1 r2 E2 p1 p2 q =>
  thn (ho pins s2 σ H2 Pr ρ2 x y v u dx dy _ I2 r1 r2 E2.tail.tail p1 p2 q) fun w s3 ⟨z,H3,r,I3,rz,E3,p⟩=>⟨z,H3,r,ρ2,I3,rz,E3,p⟩)
theorem bu {op:CmpOp} {o:Op2} (ho:OpD X (compareOp op) o) (ha:PL X a ta) (hb:PL X b tb) (hm:behindInMarks op b=false):PL X (.Compare a [op] [b] pos) (wBin o ta tb):=fun pins s σ H Pr ρ post I E h =>
 wpAny_Compare1 (two (R:=fun dx dy ρ2=>o dx dy fun r=>post r ρ2) ha hb I E h fun v u s2 x y H2 dx dy ρ2 I2 r1 r2 E2 p1 p2 q =>
  thn (ho pins s2 σ H2 Pr ρ2 x y v u dx dy _ I2 r1 r2 E2.tail.tail p1 p2 q) fun w s3 ⟨z,H3,r,I3,rz,E3,p⟩=>⟨z,H3,r,ρ2,I3,rz,E3,p⟩) hm
def wC (x:D):W L:=fun ρ post=>post (.d x) ρ
theorem af {i j pos}:PL X (.Constant (.int i) j pos) (wC (.int i)):=PL.of pe_int fun σ H Pr ρ post E h=>⟨_,_,E.cons_d (.int i),h⟩
theorem pl_bl {b j pos}:PL X (.Constant (.bool b) j pos) (wC (.bl b)):=PL.of pe_bl fun σ H Pr ρ post E h=>⟨_,_,E.cons_d (.bl b),h⟩
theorem pl_non {j pos}:PL X (.Constant .none j pos) (wC .non):=PL.of pe_non fun σ H Pr ρ post E h=>⟨_,_,E.cons_d .non,h⟩
theorem cO {x j pos}:PL X (.Constant (.str x) j pos) (wC (.str x)):=PL.of pe_str fun σ H Pr ρ post E h=>⟨_,_,E.cons_d (.str x),h⟩
def varW (o:Option L) (i:Nat) (ρ:Ev) (post:L→Ev→Prop):Prop:=match o with
 | some (.d x)=>post (.d x) ρ
 | some (.own _ xs)=>post (.d (.lst xs)) (ρ.set i (.d (.lst xs)))
 | some (.bx a ls)=>toDB a ls fun x=>post (.d x) (ρ.set i (.d x))
 | _=>False
def wVar (i:Nat):W L:=fun ρ post=>varW ρ[i]? i ρ post
theorem varW_d (x:D) (i:Nat) (ρ:Ev) (post:L→Ev→Prop):varW (some (.d x)) i ρ post=post (.d x) ρ:=(rfl)
theorem varW_own (a:Addr) (xs:List D) (i:Nat) (ρ:Ev) (post:L→Ev→Prop):varW (some (.own a xs)) i ρ post=post (.d (.lst xs)) (ρ.set i (.d (.lst xs))):=(rfl)
theorem varW_bx (a:Option Addr) (ls:List L) (i:Nat) (ρ:Ev) (post:L→Ev→Prop):varW (some (.bx a ls)) i ρ post=toDB a ls fun x=>post (.d x) (ρ.set i (.d x)):=(rfl)
theorem REnv.slot {K:PySem.W.Frag} {Pr H:Hp} {σ:St} {ρ:Ev} {i:Nat} {l:L} (E:REnv K Pr H σ ρ) (h:ρ[i]?=some l):∃ s,σ[i]?=some s∧bB K H s l:=Paired.get2 E.sl h
theorem ac (i:Nat) {x:Str} {pos:Pos} (hN:X.N[i]?=some x:=by rfl) (hv:Vis X.env.scope x:=by first | exact Or.inl rfl | exact Or.inr (Or.inl rfl) | exact Or.inr (Or.inr rfl)) (hd:(x == ("__debug__" : Str))=false:=by decide)
  (hcd:(x == ("__classdict__" : Str))=false:=by decide):PL X (.Name x pos) (wVar i):=by
 intro pins s σ H Pr ρ post I E h
 unfold wVar varW at h
 cases q:ρ[i]? with
 | none=>rw [q] at h; exact h.elim
 | some l =>
  rw [q] at h
  obtain ⟨sv,hs,sl⟩:=E.slot q
  cases l with
  | un=>exact h.elim
  | d y =>
   obtain ⟨v,rfl,r⟩:=sl
   exact thn (dR hN hv hd hcd pins s σ H (fun w H'=>w=v∧H'=H) I ⟨v,hs,rfl,rfl⟩) fun u s1 ⟨w,H1,I1,r1,e1,e2⟩=>by
    subst e1 e2
    exact ⟨w,H1,_,ρ,I1,r1,E.cons_d r,h⟩
  | own a xs =>
   obtain ⟨rfl,vs,ha,r⟩:=sl
   refine thn (dR hN hv hd hcd pins s σ H (fun w H'=>w=.ref a∧H'=H) I ⟨.ref a,hs,rfl,rfl⟩) fun u s1 ⟨w,H1,I1,r1,e1,e2⟩=>?_
   subst e1 e2
   obtain ⟨o,I2⟩:=I1.freezeL ha
   have E2:=(E.out q).freeze ha o
   have hi:i < ρ.length:=(List.getElem?_eq_some_iff.mp q).1
   have E3:=E2.back (i:=i) (by simp [hi]) hs
   rw [List.set_set] at E3
   obtain ⟨_,e,p⟩:=E2.head_d
   cases e
   exact ⟨_,_,_,_,I2,r1,E3.cons_d p,h⟩
  | bx a ls =>
   obtain ⟨y,ey,h⟩:=toDB_is h
   have hv':∃ b,sv=some (.ref b):=by
    cases a with
    | none=>simp only [bB] at sl; obtain ⟨b,_,e,_⟩:=sl; exact ⟨b,e⟩
    | some b=>simp only [bB] at sl; exact ⟨b,sl.1⟩
   obtain ⟨b,rfl⟩:=hv'
   refine thn (dR hN hv hd hcd pins s σ H (fun w H'=>w=.ref b∧H'=H) I ⟨.ref b,hs,rfl,rfl⟩) fun u s1 ⟨w,H1,I1,r1,e1,e2⟩=>?_
   subst e1 e2
   obtain ⟨H2,I2,E2,_⟩:=frzL (.bx a ls) I1 (E.outL q hs) ey
   have hi:i < ρ.length:=(List.getElem?_eq_some_iff.mp q).1
   have E3:=E2.back (i:=i) (by simp [hi]) hs
   rw [List.set_set] at E3
   obtain ⟨_,e,p⟩:=E2.head_d
   cases e
   exact ⟨_,_,_,_,I2,r1,E3.cons_d p,h⟩
def movW (o:Option L) (i:Nat) (ρ:Ev) (post:L→Ev→Prop):Prop:=match o with
 | some (.d x)=>post (.d x) ρ
 | some (.own a xs)=>post (.own a xs) (ρ.set i .un)
 | some (.bx a ls)=>post (.bx a ls) (ρ.set i .un)
 | _=>False
def wMove (i:Nat):W L:=fun ρ post=>movW ρ[i]? i ρ post
theorem movW_d (x:D) (i:Nat) (ρ:Ev) (post:L→Ev→Prop):movW (some (.d x)) i ρ post=post (.d x) ρ:=(rfl)
theorem movW_own (a:Addr) (xs:List D) (i:Nat) (ρ:Ev) (post:L→Ev→Prop):movW (some (.own a xs)) i ρ post=post (.own a xs) (ρ.set i .un):=(rfl)
theorem movW_bx (a:Option Addr) (ls:List L) (i:Nat) (ρ:Ev) (post:L→Ev→Prop):movW (some (.bx a ls)) i ρ post=post (.bx a ls) (ρ.set i .un):=(rfl)
theorem pl_move (i:Nat) {x:Str} {pos:Pos} (hN:X.N[i]?=some x:=by rfl) (hv:Vis X.env.scope x:=by first | exact Or.inl rfl | exact Or.inr (Or.inl rfl) | exact Or.inr (Or.inr rfl)) (hd:(x == ("__debug__" : Str))=false:=by decide)
  (hcd:(x == ("__classdict__" : Str))=false:=by decide):PL X (.Name x pos) (wMove i):=by
 intro pins s σ H Pr ρ post I E h
 unfold wMove movW at h
 cases q:ρ[i]? with
 | none=>rw [q] at h; exact h.elim
 | some l =>
  rw [q] at h
  obtain ⟨sv,hs,sl⟩:=E.slot q
  cases l with
  | un=>exact h.elim
  | d y =>
   obtain ⟨v,rfl,r⟩:=sl
   exact thn (dR hN hv hd hcd pins s σ H (fun w H'=>w=v∧H'=H) I ⟨v,hs,rfl,rfl⟩) fun u s1 ⟨w,H1,I1,r1,e1,e2⟩=>by
    subst e1 e2
    exact ⟨w,H1,_,ρ,I1,r1,E.cons_d r,h⟩
  | own a xs =>
   obtain ⟨rfl,vs,ha,r⟩:=sl
   refine thn (dR hN hv hd hcd pins s σ H (fun w H'=>w=.ref a∧H'=H) I ⟨.ref a,hs,rfl,rfl⟩) fun u s1 ⟨w,H1,I1,r1,e1,e2⟩=>?_
   subst e1 e2
   exact ⟨_,_,_,_,I1,r1,E.out q,h⟩
  | bx a ls =>
   have hv':∃ b,sv=some (.ref b):=by
    cases a with
    | none=>simp only [bB] at sl; obtain ⟨b,_,e,_⟩:=sl; exact ⟨b,e⟩
    | some b=>simp only [bB] at sl; exact ⟨b,sl.1⟩
   obtain ⟨b,rfl⟩:=hv'
   refine thn (dR hN hv hd hcd pins s σ H (fun w H'=>w=.ref b∧H'=H) I ⟨.ref b,hs,rfl,rfl⟩) fun u s1 ⟨w,H1,I1,r1,e1,e2⟩=>?_
   subst e1 e2
   exact ⟨_,_,_,_,I1,r1,E.outL q hs,h⟩
theorem pl_glob {x:Str} {v:V} {u:Value} {y:D} {pos:Pos} (hg:Gl X x) (hm:X.mg x=some u) (r:RelV v u) (hy:∀ H,Rep X.K H v y) (hd:(x == ("__debug__" : Str))=false:=by decide):PL X (.Name x pos) (wC y) :=
 PL.of (pe_glob hg hm r hd) fun σ H Pr ρ post E h=>⟨_,_,E.cons_d (hy H),h⟩
def isBl:L→(Bool→Prop)→Prop
 | .d (.bl b),k=>k b
 | _,_=>False
def aN (t:W L):W Bool:=fun ρ post=>t ρ fun r ρ1=>isBl r fun b=>post b ρ1
theorem isBl_is {r:L} {k:Bool→Prop} (h:isBl r k):∃ b,r=.d (.bl b)∧k b:=by
 cases r with
 | d x=>cases x with
  | bl b=>exact ⟨b,rfl,h⟩
  | _=>exact h.elim
 | _=>exact h.elim
theorem bL {t:W L} (h:PL X e t) (he:∀ whole,isTrue e X.env whole=(do let v ← whole; standAt e.pos; holding [v] (truthy v)):=by intro _; rfl):PB X e (aN t):=by
 intro pins s σ H Pr ρ post I E ht
 rw [he]
 refine wpAny_bind (thn (h pins s σ H Pr ρ _ I E ht) fun u s1 ⟨v,H1,r,ρ1,I1,rv,E1,p⟩=>wpAny_bind (wpAny_standAt (wpAny_holding ?_)))
 obtain ⟨b,rfl,p⟩:=isBl_is p
 obtain ⟨_,e1,p1⟩:=E1.head_d
 cases e1
 cases p1
 cases rv
 exact wpAny_truthy_bool ⟨H1,ρ1,I1,E1.tail,p⟩
end
end L2
namespace L2
open PySem PySem.Spec PyProof.Rows
section
variable {X:Cx} {e a b c:Expr} {es rest:List Expr} {pos:Pos} {ta tb tc:W L} {tA tB:W Bool}
def PBw (X:Cx) (e:Expr) (t:W Bool):Prop :=
 ∀ (whole:Sem Value) (pins:List (Addr×Obj)) (s:Shared) (σ:St) (H Pr:Hp) (ρ:Ev) (post:Bool→Ev→Prop),Inv X pins σ H s→REnv X.K Pr H σ ρ→t ρ post→wpAny (model X.prog X.w) X.A (isTrue e X.env whole) (EB X pins σ Pr post) X.xe s
theorem PBw.pb {t:W Bool} (h:PBw X e t):PB X e t:=h _
def wAnd (t u:W Bool):W Bool:=fun ρ post=>t ρ fun c ρ1=>if c=true then u ρ1 post else post false ρ1
def wOr (t u:W Bool):W Bool:=fun ρ post=>t ρ fun c ρ1=>if c=true then post true ρ1 else u ρ1 post
def wNot (t:W Bool):W Bool:=fun ρ post=>t ρ fun c ρ1=>post (!c) ρ1
theorem pbw_and1 (ha:PB X a tA):PBw X (.BoolOp .And [a] pos) tA:=by
 intro wh pins s σ H Pr ρ post I E h
 refine isTrue_and (thn (ha pins s σ H Pr ρ post I E h) fun c s1 e=>?_)
 cases c with
 | true=>exact isTrue_and_nil e
 | false=>exact e
theorem pbw_or1 (ha:PB X a tA):PBw X (.BoolOp .Or [a] pos) tA:=by
 intro wh pins s σ H Pr ρ post I E h
 refine isTrue_or (thn (ha pins s σ H Pr ρ post I E h) fun c s1 e=>?_)
 cases c with
 | false=>exact isTrue_or_nil e
 | true=>exact e
theorem pbw_and (ha:PB X a tA) (hb:PBw X (.BoolOp .And (b::rest) pos) tB):PBw X (.BoolOp .And (a::b::rest) pos) (wAnd tA tB):=by
 intro wh pins s σ H Pr ρ post I E h
 refine isTrue_and (thn (ha pins s σ H Pr ρ _ I E h) fun c s1 ⟨H1,ρ1,I1,E1,q1⟩=>?_)
 cases c with
 | true=>exact hb wh pins s1 σ H1 Pr ρ1 post I1 E1 q1
 | false=>exact ⟨H1,ρ1,I1,E1,q1⟩
theorem pbw_or (ha:PB X a tA) (hb:PBw X (.BoolOp .Or (b::rest) pos) tB):PBw X (.BoolOp .Or (a::b::rest) pos) (wOr tA tB):=by
 intro wh pins s σ H Pr ρ post I E h
 refine isTrue_or (thn (ha pins s σ H Pr ρ _ I E h) fun c s1 ⟨H1,ρ1,I1,E1,q1⟩=>?_)
 cases c with
 | true=>exact ⟨H1,ρ1,I1,E1,q1⟩
 | false=>exact hb wh pins s1 σ H1 Pr ρ1 post I1 E1 q1
theorem pb_not (ha:PB X a tA):PB X (.UnaryOp .Not a pos) (wNot tA):=by
 intro pins s σ H Pr ρ post I E h
 exact isTrue_not (ha pins s σ H Pr ρ (fun c ρ1=>post (!c) ρ1) I E h)
theorem pbc {op:CmpOp} {o:Op2} (ho:OpD X (compareOp op) o) (ha:PL X a ta) (hb:PL X b tb) (hm:behindInMarks op b=false):PB X (.Compare a [op] [b] pos) (aN (wBin o ta tb)):=by
 intro pins s σ H Pr ρ post I E h
 refine wpAny_isTrue_Compare1 (two (R:=fun dx dy ρ2=>o dx dy fun r=>isBl r fun b=>post b ρ2) ha hb I E h fun v u s2 x y H2 dx dy ρ2 I2 r1 r2 E2 p1 p2 q=>?_) hm
 refine thn (ho pins s2 σ H2 Pr ρ2 x y v u dx dy _ I2 r1 r2 E2.tail.tail p1 p2 q) fun w s3 ⟨z,H3,r,I3,rz,E3,p⟩=>?_
 obtain ⟨b,rfl,p⟩:=isBl_is p
 obtain ⟨_,e1,p1⟩:=E3.head_d
 cases e1
 cases p1
 cases rz
 exact wpAny_truthy_bool ⟨H3,ρ2,I3,E3.tail,p⟩
def wAndV (ta tb:W L):W L:=fun ρ post=>ta ρ fun r ρ1=>isBl r fun c=>if c=true then tb ρ1 post else post (.d (.bl false)) ρ1
def wOrV (ta tb:W L):W L:=fun ρ post=>ta ρ fun r ρ1=>isBl r fun c=>if c=true then post (.d (.bl true)) ρ1 else tb ρ1 post
def wNotV (t:W Bool):W L:=fun ρ post=>t ρ fun c ρ1=>post (.d (.bl (!c))) ρ1
theorem pl_one {op} {t:W L} (h:PL X a t):PL X (.BoolOp op [a] pos) t:=fun pins s σ H Pr ρ post I E hw=>BoolOp_one (h pins s σ H Pr ρ post I E hw)
theorem EL.bl {pins:List (Addr×Obj)} {σ:St} {Pr:Hp} {post:Bool→Ev→Prop} {u:Value} {s':Shared} (h:EL X pins σ Pr (fun r ρ=>isBl r fun b=>post b ρ) u s') :
  ∃ H' b ρ',u=.bool b∧Inv X pins σ H' s'∧REnv X.K Pr H' σ ρ'∧post b ρ':=by
 obtain ⟨v,H',r,ρ',I,rv,E,p⟩:=h
 obtain ⟨b,rfl,p⟩:=isBl_is p
 obtain ⟨_,e1,p1⟩:=E.head_d
 cases e1
 cases p1
 cases rv
 exact ⟨H',b,ρ',rfl,I,E.tail,p⟩
theorem c8 (ha:PL X a ta) (hb:PL X (.BoolOp .And (b::rest) pos) tb):PL X (.BoolOp .And (a::b::rest) pos) (wAndV ta tb):=by
 intro pins s σ H Pr ρ post I E h
 refine BoolOp_and (thn (ha pins s σ H Pr ρ _ I E h) fun v s1 q=>?_)
 obtain ⟨H1,c,ρ1,rfl,I1,E1,q1⟩:=EL.bl (post:=fun c ρ1=>if c=true then tb ρ1 post else post (.d (.bl false)) ρ1) q
 refine wpAny_truthy_bool ?_
 cases c with
 | true=>exact hb pins s1 σ H1 Pr ρ1 post I1 E1 q1
 | false=>exact ⟨.bl false,H1,_,ρ1,I1,rfl,E1.cons_d (.bl false),q1⟩
theorem pl_or (ha:PL X a ta) (hb:PL X (.BoolOp .Or (b::rest) pos) tb):PL X (.BoolOp .Or (a::b::rest) pos) (wOrV ta tb):=by
 intro pins s σ H Pr ρ post I E h
 refine BoolOp_or (thn (ha pins s σ H Pr ρ _ I E h) fun v s1 q=>?_)
 obtain ⟨H1,c,ρ1,rfl,I1,E1,q1⟩:=EL.bl (post:=fun c ρ1=>if c=true then post (.d (.bl true)) ρ1 else tb ρ1 post) q
 refine wpAny_truthy_bool ?_
 cases c with
 | false=>exact hb pins s1 σ H1 Pr ρ1 post I1 E1 q1
 | true=>exact ⟨.bl true,H1,_,ρ1,I1,rfl,E1.cons_d (.bl true),q1⟩
theorem pl_not (ha:PL X a ta):PL X (.UnaryOp .Not a pos) (wNotV (aN ta)):=by
 intro pins s σ H Pr ρ post I E h
 refine UnaryOp_ (thn (ha pins s σ H Pr ρ _ I E h) fun v s1 q=>?_)
 obtain ⟨H1,c,ρ1,rfl,I1,E1,q1⟩:=EL.bl (post:=fun c ρ1=>post (.d (.bl (!c))) ρ1) q
 exact not_of (wpAny_truthy_bool ⟨.bl (!c),H1,_,ρ1,I1,rfl,E1.cons_d (.bl _),q1⟩)
def wIfE (t:W Bool) (ta tb:W L):W L:=fun ρ post=>t ρ fun c ρ1=>if c=true then ta ρ1 post else tb ρ1 post
theorem pl_ifE (hc:PB X c tA) (ha:PL X a ta) (hb:PL X b tb):PL X (.IfExp c a b pos) (wIfE tA ta tb):=by
 intro pins s σ H Pr ρ post I E h
 refine wpAny_IfExp (thn (hc pins s σ H Pr ρ _ I E h) fun d s1 ⟨H1,ρ1,I1,E1,q1⟩=>?_)
 cases d with
 | true=>exact ha pins s1 σ H1 Pr ρ1 post I1 E1 q1
 | false=>exact hb pins s1 σ H1 Pr ρ1 post I1 E1 q1
def wUn (op:D→(L→Prop)→Prop) (t:W L):W L:=fun ρ post=>t ρ fun x ρ1=>toD x fun dx=>op dx fun r=>post r ρ1
def opNeg:D→(L→Prop)→Prop
 | .int i,k=>k (.d (.int (-i)))
 | _,_=>False
theorem pl_neg (ha:PL X a ta):PL X (.UnaryOp .USub a pos) (wUn opNeg ta):=by
 intro pins s σ H Pr ρ post I E h
 refine UnaryOp_ (thn (ha pins s σ H Pr ρ _ I E h) fun v s1 q=>?_)
 obtain ⟨x,H1,dx,ρ1,I1,r1,E1,q1⟩:=EL.frz (post:=fun dx ρ1=>opNeg dx fun r=>post r ρ1) q
 obtain ⟨_,e1,p1⟩:=E1.head_d
 cases e1
 cases p1 with
 | int i =>
  exact thn (un_neg pins s1 σ H1 _ v (fun w H'=>w=.int (-i)∧H'=H1) I1 r1 ⟨i,rfl,rfl,rfl⟩) fun u s2 ⟨w,H2,I2,r2,e1,e2⟩=>by
   subst e1 e2
   exact ⟨_,_,_,ρ1,I2,r2,E1.tail.cons_d (.int _),q1⟩
 | _=>exact q1.elim
variable {st:Stmt} {sts:List Stmt} {t u:W Fl}
def bt:W Fl:=fun ρ post=>post .nx ρ
def wSeq (t u:W Fl):W Fl:=fun ρ post=>t ρ fun f ρ1=>match f with
 | .nx=>u ρ1 post
 | f=>post f ρ1
theorem aH:PMs X [] bt:=fun _ _ σ H Pr ρ post I E h=>wpAny_execs_nil ⟨σ,H,ρ,I,E,h⟩
theorem ah (h1:PM X st t) (h2:PMs X sts u):PMs X (st::sts) (wSeq t u):=by
 intro pins s σ H Pr ρ post I E h
 refine wpAny_execs_cons (thn (h1 pins s σ H Pr ρ _ I E h) fun f s1 q=>?_)
 cases f with
 | next =>
  obtain ⟨σ',H',ρ',I',E',q⟩:=q
  exact h2 pins s1 σ' H' Pr ρ' post I' E' q
 | ret v=>exact q
 | brk=>exact q
 | cont=>exact q
theorem aj (h1:PM X st t):PMs X [st] t:=by
 intro pins s σ H Pr ρ post I E h
 refine wpAny_execs_cons (thn (h1 pins s σ H Pr ρ _ I E h) fun f s1 q=>?_)
 cases f with
 | next=>exact wpAny_execs_nil q
 | ret v=>exact q
 | brk=>exact q
 | cont=>exact q
def wDrop (t:W L):W Fl:=fun ρ post=>t ρ fun _ ρ1=>post .nx ρ1
theorem fw {te:W L} (he:PL X e te) (hs:swapsWith e none pos.line X.env=pure false:=by rfl):PM X (.Expr e pos) (wDrop te):=by
 intro pins s σ H Pr ρ post I E h
 exact wpAny_Expr_any (thn (he pins s σ H Pr ρ _ I E h) fun v s1 ⟨x,H1,r,ρ1,I1,r1,E1,q1⟩=>⟨σ,H1,ρ1,I1,E1.tail,q1⟩) I.quiet hs
def wRet (t:W L):W Fl:=fun ρ post=>t ρ fun r ρ1=>post (.rt r) ρ1
theorem ar {te:W L} (he:PL X e te):PM X (.Return (some e) pos) (wRet te):=by
 intro pins s σ H Pr ρ post I E h
 exact wpAny_Return_some (thn (he pins s σ H Pr ρ _ I E h) fun v s1 ⟨x,H1,r,ρ1,I1,r1,E1,q1⟩=>⟨x,σ,H1,r,ρ1,σ,I1,r1,E1,q1⟩)
def wRetN:W Fl:=fun ρ post=>post (.rt (.d .non)) ρ
def wIf (c:W Bool) (t u:W Fl):W Fl:=fun ρ post=>c ρ fun b ρ1=>if b=true then t ρ1 post else u ρ1 post
theorem bD {sa sb:List Stmt} (hc:PB X c tA) (ha:PMs X sa t) (hb:PMs X sb u):PM X (.If c sa sb pos) (wIf tA t u):=by
 intro pins s σ H Pr ρ post I E h
 refine wpAny_If (thn (hc pins s σ H Pr ρ _ I E h) fun d s1 ⟨H1,ρ1,I1,E1,q1⟩=>?_)
 cases d with
 | true=>exact ha pins s1 σ H1 Pr ρ1 post I1 E1 q1
 | false=>exact hb pins s1 σ H1 Pr ρ1 post I1 E1 q1
def wNever:W Fl:=fun _ _=>False
theorem pm_never:PM X st wNever:=fun _ _ _ _ _ _ _ _ _ h=>h.elim
theorem REnv.forget {K:PySem.W.Frag} {Pr H:Hp} {σ:St} {ρ:Ev} (E:REnv K Pr H σ ρ) (i:Nat) (v:Option V):REnv K Pr H (σ.set i v) (ρ.set i .un):=by
 have hsub:(owns (ρ.set i .un)).Sublist (owns ρ):=by
  have:∀ (ρ:Ev) (i:Nat),(owns (ρ.set i .un)).Sublist (owns ρ):=by
   intro ρ
   induction ρ with
   | nil=>intro i; exact List.Sublist.refl _
   | cons l ρ ih =>
    intro i
    cases i with
    | zero =>
     show (owns ρ).Sublist (owns (l::ρ))
     rw [aA]; exact List.sublist_append_right _ _
    | succ i =>
     show (owns (l::ρ.set i .un)).Sublist (owns (l::ρ))
     rw [aA,aA]
     exact (List.Sublist.refl _).append (ih i)
  exact this ρ i
 exact ⟨E.sub,E.nd.sublist hsub,fun a h=>E.off a (hsub.subset h),Paired.set2 True.intro i E.sl⟩
theorem REnv.store {K:PySem.W.Frag} {Pr H:Hp} {σ:St} {ρ:Ev} {v:Option V} {l:L} (E:REnv K Pr H (v::σ) (l::ρ)) {i:Nat} (hi:i < σ.length):REnv K Pr H (σ.set i v) (ρ.set i l):=by
 have E1:=E.forget (i+1) v
 have E2:REnv K Pr H (v::σ.set i v) (l::ρ.set i .un):=E1
 have hl:=E.tail.len
 have E3:=E2.back (i:=i) (by rw [List.getElem?_set_self (by omega)]) (by rw [List.getElem?_set_self hi])
 rw [List.set_set] at E3
 exact E3
def wSet (i:Nat) (t:W L):W Fl:=fun ρ post=>t ρ fun r ρ1=>post .nx (ρ1.set i r)
theorem au {i:Nat} {x:Str} {te:W L} {pos':Pos} (hN:X.N.Nodup) (hi:X.N[i]?=some x) (hx:Loc X.env.scope x) (he:PL X e te) (hs:swapsWith e (some (.Name x pos')) pos.line X.env=pure false:=by rfl) (hf:X.fn x=true∨X.env.scope.names.lookup x=some .local:=by first | exact .inl rfl | exact .inr rfl | assumption) :
  PM X (.Assign [.Name x pos'] e pos) (wSet i te):=by
 intro pins s σ H Pr ρ post I E h
 refine wpAny_Assign_Name (thn (he pins s σ H Pr ρ _ I E h) fun v s1 ⟨y,H1,r,ρ1,I1,r1,E1,q1⟩=>?_) hs
 exact store_ok I1 hN hi hx r1 (fun s2 I2=>⟨_,H1,_,I2,E1.store (by rw [I1.len]; exact (List.getElem?_eq_some_iff.mp hi).1),q1⟩) hf
end
end L2
namespace L2
open PySem PySem.Spec PyProof.Rows
theorem owns_perm {a b:Ev} (h:a.Perm b):(owns a).Perm (owns b):=by
 induction h with
 | nil=>exact .refl _
 | cons x _ ih=>rw [aA,aA]; exact ih.append_left _
 | swap x y l =>
  rw [aA,aA,aA,aA,← List.append_assoc,← List.append_assoc]
  exact List.Perm.append_right _ List.perm_append_comm
 | trans _ _ h1 h2=>exact h1.trans h2
theorem owns_sub {a b:Ev} (h:a.Sublist b):(owns a).Sublist (owns b):=by
 induction h with
 | slnil=>exact .refl _
 | cons x _ ih=>rw [aA]; exact ih.trans (List.sublist_append_right _ _)
 | cons_cons x _ ih=>rw [aA,aA]; exact (List.Sublist.refl _).append ih
def tL (K:PySem.W.Frag) (t:W L):TE:=fun σ H Q=>∃ Pr ρ post,REnv K Pr H σ ρ∧t ρ post∧∀ v H' r ρ',REnv K Pr H' (some v::σ) (r::ρ')→post r ρ'→Q v H'
def tW (K:PySem.W.Frag) (t:W Fl):TS:=fun D σ H=>∃ Pr ρ post,REnv K Pr H σ ρ∧t ρ post∧(∀ σ' H' ρ',REnv K Pr H' σ' ρ'→post .nx ρ'→D.nx σ' H')∧(∀ σ' H' ρ',REnv K Pr H' σ' ρ'→post .bk ρ'→D.bk σ' H')∧(∀ σ' H' ρ',REnv K Pr H' σ' ρ'→post .ct ρ'→D.ct σ' H') ∧
 ∀ v τ H' r ρ',REnv K Pr H' (some v::τ) (r::ρ')→post (.rt r) ρ'→D.rt v H'
def tWb (K:PySem.W.Frag) (t:W Bool):TT:=fun σ H Q=>∃ Pr ρ post,REnv K Pr H σ ρ∧t ρ post∧∀ b H' ρ',REnv K Pr H' σ ρ'→post b ρ'→Q b H'
section
variable {X:Cx} {e a b c:Expr} {es rest:List Expr} {pos:Pos} {ta tb tc:W L} {tA tB:W Bool} {st:Stmt} {sts:List Stmt} {t u:W Fl}
theorem PL.pe {t:W L} (h:PL X e t):PE X e (tL X.K t):=fun pins s σ H Q I ⟨Pr,ρ,post,E,ht,q⟩ =>
 thn (h pins s σ H Pr ρ post I E ht) fun u s1 ⟨v,H1,r,ρ1,I1,rv,E1,p⟩=>⟨v,H1,I1,rv,q v H1 r ρ1 E1 p⟩
theorem PB.pt {t:W Bool} (h:PB X e t):PT X e (tWb X.K t):=fun pins s σ H Q I ⟨Pr,ρ,post,E,ht,q⟩ =>
 thn (h pins s σ H Pr ρ post I E ht) fun b s1 ⟨H1,ρ1,I1,E1,p⟩=>⟨H1,I1,q b H1 ρ1 E1 p⟩
theorem PMs.pss (h:PMs X sts t):PSs X sts (tW X.K t):=fun pins s σ H D I ⟨Pr,ρ,post,E,ht,q1,q2,q3,q4⟩ =>
 thn (h pins s σ H Pr ρ post I E ht) fun f s1 q=>by
  cases f with
  | next=>obtain ⟨σ',H',ρ',I',E',p⟩:=q; exact ⟨σ',H',I',q1 σ' H' ρ' E' p⟩
  | brk=>obtain ⟨σ',H',ρ',I',E',p⟩:=q; exact ⟨σ',H',I',q2 σ' H' ρ' E' p⟩
  | cont=>obtain ⟨σ',H',ρ',I',E',p⟩:=q; exact ⟨σ',H',I',q3 σ' H' ρ' E' p⟩
  | ret u=>obtain ⟨v,σ',H',r,ρ',τ,I',rv,E',p⟩:=q; exact ⟨v,σ',H',I',rv,q4 v τ H' r ρ' E' p⟩
def endsOf (K:PySem.W.Frag) (Pr:Hp) (post:Fl→Ev→Prop):Ends where
 nx:=fun σ' H'=>∃ ρ',REnv K Pr H' σ' ρ'∧post .nx ρ'
 rt:=fun v H'=>∃ τ r ρ',REnv K Pr H' (some v::τ) (r::ρ')∧post (.rt r) ρ'
 bk:=fun σ' H'=>∃ ρ',REnv K Pr H' σ' ρ'∧post .bk ρ'
 ct:=fun σ' H'=>∃ ρ',REnv K Pr H' σ' ρ'∧post .ct ρ'
theorem PM.of {ts:TS} (h:PS X st ts) (q:∀ σ H Pr ρ post,σ.length=X.N.length→REnv X.K Pr H σ ρ→t ρ post→ts (endsOf X.K Pr post) σ H):PM X st t:=fun pins s σ H Pr ρ post I E ht =>
 thn (h pins s σ H _ I (q σ H Pr ρ post I.len E ht)) fun f s1 q=>by
  cases f with
  | next=>obtain ⟨σ',H',I',ρ',E',p⟩:=q; exact ⟨σ',H',ρ',I',E',p⟩
  | brk=>obtain ⟨σ',H',I',ρ',E',p⟩:=q; exact ⟨σ',H',ρ',I',E',p⟩
  | cont=>obtain ⟨σ',H',I',ρ',E',p⟩:=q; exact ⟨σ',H',ρ',I',E',p⟩
  | ret u=>obtain ⟨v,σ',H',I',rv,τ,r,ρ',E',p⟩:=q; exact ⟨v,σ',H',r,ρ',τ,I',rv,E',p⟩
theorem REnv.narrow {K:PySem.W.Frag} {Pr H1 H:Hp} {σ1 σ:St} {ρ1 ρ:Ev} (E1:REnv K Pr H1 σ1 ρ1) (E:REnv K (a0 H1 ρ1) H σ ρ):REnv K Pr H σ ρ:=by
 refine ⟨fun b o e=>E.sub b o ?_,E.nd,fun a ha=>?_,E.sl⟩
 ·
  unfold a0
  rw [if_neg,E1.sub b o e]
  intro hm
  have z:=E1.off b hm
  rw [e] at z
  cases z
 ·
  have z:=E.off a ha
  unfold a0 at z
  by_cases hm:a∈owns ρ1
  ·
   exact E1.off a hm
  ·
   rw [if_neg hm] at z
   cases q:Pr a with
   | none=>rfl
   | some o=>rw [E1.sub a o q] at z; cases z
def aNil:W (List L):=fun ρ post=>post [] ρ
def aVal (t:W L) (r:W (List L)):W (List L):=fun ρ post=>t ρ fun x ρ1=>r ρ1 fun xs ρ2=>post (x::xs) ρ2
def aVar (i:Nat) (r:W (List L)):W (List L):=fun ρ post=>match ρ[i]? with
 | some (.own _ _)=>r ρ fun xs ρ2=>post (.un::xs) ρ2
 | _=>False
theorem ae:PAL X [] [] aNil:=fun _ pins s σ H Pr ρ post I E h=>Calls.spliced_nil ⟨[],H,[],ρ,I,.nil,rfl,rfl,E,fun k i e=>by simp at e,h⟩
theorem ab {bs:List (Option Nat)} {r:W (List L)} {t:W L} (ha:PL X e t) (hr:PAL X es bs r) (hs:starEach (e::es) X.env=(false,eval e X.env)::starEach es X.env:=by rfl):PAL X (e::es) (none::bs) (aVal t r):=by
 intro pos pins s σ H Pr ρ post I E h
 rw [hs]
 show wpAny _ _ (spliced ((false,eval e X.env)::backTo pos (starEach es X.env))) _ _ s
 refine Calls.spliced_cons (thn (ha pins s σ H Pr ρ _ I E h) fun u s1 ⟨x,H1,l,ρ1,I1,r1,E1,q1⟩=>?_)
 refine thn (hr pos pins s1 σ H1 _ ρ1 _ I1 E1.tail.wide q1) fun us s2 ⟨vs,H2,ls,ρ2,I2,r2,hl,hb,E2,hv,q2⟩=>?_
 have E3:REnv X.K Pr H2 (vs.map some++(some x::σ)) (ls++(l::ρ2)):=REnv.step (τ:=[some x]) (lam:=[l]) E1 rfl E2 (by simp [hl])
 have E4:REnv X.K Pr H2 (some x::(vs.map some++σ)) (l::(ls++ρ2)):=by
  have pm:(owns (ls++(l::ρ2))).Perm (owns (l::(ls++ρ2))):=owns_perm List.perm_middle
  have s1:=Paired.unapp (by simp [hl]) E3.sl
  obtain ⟨s1,s2⟩:=s1
  cases s2 with
  | cons q t=>exact ⟨E3.sub,pm.nodup_iff.mp E3.nd,fun a h=>E3.off a (pm.mem_iff.mpr h),.cons q (Paired.app s1 t)⟩
 refine ⟨x::vs,H2,l::ls,ρ2,I2,.cons r1 r2,by simp [hl],by simp [hb],E4,fun k i e=>?_,q2⟩
 cases k with
 | zero=>simp at e
 | succ k=>simpa using hv k i (by simpa using e)
theorem aU (i:Nat) {x:Str} {p:Pos} {bs:List (Option Nat)} {r:W (List L)} (hr:PAL X es bs r) (hN:X.N[i]?=some x:=by rfl) (hv:Vis X.env.scope x:=by first | exact Or.inl rfl | exact Or.inr (Or.inl rfl) | exact Or.inr (Or.inr rfl)) (hd:(x == ("__debug__" : Str))=false:=by decide)
  (hcd:(x == ("__classdict__" : Str))=false:=by decide) (hs:starEach (.Name x p::es) X.env=(false,eval (.Name x p) X.env)::starEach es X.env:=by rfl):PAL X (.Name x p::es) (some i::bs) (aVar i r):=by
 intro pos pins s σ H Pr ρ post I E h
 unfold aVar at h
 cases q:ρ[i]? with
 | none=>rw [q] at h; exact h.elim
 | some l =>
  rw [q] at h
  cases l with
  | un=>exact h.elim
  | d y=>exact h.elim
  | bx _ _=>exact h.elim
  | own a xs =>
   obtain ⟨sv,hsl,sl⟩:=E.slot q
   obtain ⟨rfl,_⟩:=sl
   rw [hs]
   show wpAny _ _ (spliced ((false,eval (.Name x p) X.env)::backTo pos (starEach es X.env))) _ _ s
   refine Calls.spliced_cons (thn (dR hN hv hd hcd pins s σ H (fun w H'=>w=.ref a∧H'=H) I ⟨.ref a,hsl,rfl,rfl⟩) fun u s1 ⟨w,H1,I1,r1,e1,e2⟩=>?_)
   subst e1 e2
   refine thn (hr pos pins s1 σ H1 Pr ρ _ I1 E h) fun us s2 ⟨vs,H2,ls,ρ2,I2,r2,hl,hb,E2,hv,q2⟩=>?_
   refine ⟨.ref a::vs,H2,.un::ls,ρ2,I2,.cons r1 r2,by simp [hl],by simp [hb],E2.cons_un,fun k j e=>?_,q2⟩
   cases k with
   | zero=>simp at e; subst e; exact ⟨rfl,.ref a,rfl,hsl⟩
   | succ k=>simpa using hv k j (by simpa using e)
def toDs:List L→(List D→Prop)→Prop
 | [],k=>k []
 | .d x::r,k=>toDs r fun xs=>k (x::xs)
 | _::_,_=>False
theorem toDs_is:∀ {ls:List L} {k:List D→Prop},toDs ls k→∃ xs,ls=xs.map .d∧k xs
 | [],_,h=>⟨[],rfl,h⟩
 | .d x::r,k,h=>by
  obtain ⟨xs,e,q⟩:=toDs_is (ls:=r) h
  exact ⟨x::xs,by rw [e]; rfl,q⟩
 | .un::_,_,h=>h.elim
 | .own _ _::_,_,h=>h.elim
theorem reps_of {K:PySem.W.Frag} {Pr H:Hp} {σ:St} {ρ:Ev}:∀ {vs:List V} {xs:List D},vs.length=xs.length→REnv K Pr H (vs.map some++σ) (xs.map .d++ρ)→Reps K H vs xs
 | [],[],_,_=>.nil
 | v::vs,x::xs,hl,E=>by
  obtain ⟨w,e,r⟩:=REnv.head_d (v:=some v) (x:=x) E
  cases e
  exact .cons r (reps_of (by simpa using hl) (REnv.tail (v:=some v) (l:=.d x) E))
 | [],_::_,hl,_=>by simp at hl
 | _::_,[],hl,_=>by simp at hl
def wTup (t:W (List L)):W L:=fun ρ post=>t ρ fun ls ρ1=>toDs ls fun xs=>xs.length≤sizeLine∧post (.d (.tup xs)) ρ1
def wLst (t:W (List L)):W L:=fun ρ post=>t ρ fun ls ρ1=>toDs ls fun xs=>xs.length≤sizeLine∧∀ a,post (.own a xs) ρ1
theorem aX {x1} {bs:List (Option Nat)} {t:W (List L)} (h:PAL X es bs t):PL X (.Tuple es x1 pos) (wTup t):=by
 intro pins s σ H Pr ρ post I E hq
 refine wpAny_Tuple_spliced (thn (h pos pins s σ H Pr ρ _ I E hq) fun us s1 ⟨vs,H1,ls,ρ1,I1,r,hl,hb,E1,hv,q⟩=>?_)
 obtain ⟨xs,rfl,z,q⟩:=toDs_is q
 have hlen:vs.length=xs.length:=by simpa using hl
 refine ⟨by rw [← r.length,hlen]; exact z,?_⟩
 have hf:H1 s1.heap.objs.size=none:=I1.hok.fresh (Nat.le_refl _)
 refine ⟨.ref s1.heap.objs.size,upd H1 s1.heap.objs.size (.tup vs),_,ρ1,I1.laid (t':=s1.toks) (fun b u e=>Heap.get?_push_of_some _ e) (Nat.le_refl _) ?_,rfl,(E1.drop (by simp [hlen])).cons_tup hf (reps_of hlen E1),q⟩
 exact ⟨by rw [hlen]; exact z,us,r,⟨_,Heap.get?_push_size _ rfl,rfl,_,rfl⟩⟩
theorem bv {bs:List (Option Nat)} {t:W (List L)} (h:PAL X es bs t):PL X (.List es pos) (wLst t):=by
 intro pins s σ H Pr ρ post I E hq
 refine wpAny_List_spliced (thn (h pos pins s σ H Pr ρ _ I E hq) fun us s1 ⟨vs,H1,ls,ρ1,I1,r,hl,hb,E1,hv,q⟩=>?_)
 obtain ⟨xs,rfl,z,q⟩:=toDs_is q
 have hlen:vs.length=xs.length:=by simpa using hl
 refine ⟨by rw [← r.length,hlen]; exact z,?_⟩
 have hf:H1 s1.heap.objs.size=none:=I1.hok.fresh (Nat.le_refl _)
 refine ⟨.ref s1.heap.objs.size,upd H1 s1.heap.objs.size (.lst vs),_,ρ1,I1.laid (t':=s1.toks) (fun b u e=>Heap.get?_push_of_some _ e) (Nat.le_refl _) ?_,rfl,(E1.drop (by simp [hlen])).cons_own hf (reps_of hlen E1),q _⟩
 exact ⟨by rw [hlen]; exact z,us,0,r,Heap.get?_push_size _ rfl⟩
abbrev FS:=List L→(L→List L→Prop)→Prop
def spF (K:PySem.W.Frag) (n:Nat) (fs:FS):Sp:=fun vs H Q _=>vs.length=n∧∃ Pr ls post,REnv K Pr H (vs.map some) ls∧fs ls post∧∀ v H' r ls',REnv K Pr H' (some v::vs.map some) (r::ls')→post r ls'→Q v H'
theorem REnv.swap {K:PySem.W.Frag} {Pr H:Hp} {σ τ:St} {ρ lam:Ev} (hl:τ.length=lam.length) (E:REnv K Pr H (τ++σ) (lam++ρ)):REnv K Pr H (σ++τ) (ρ++lam):=by
 have pm:(owns (lam++ρ)).Perm (owns (ρ++lam)):=owns_perm List.perm_append_comm
 obtain ⟨s1,s2⟩:=Paired.unapp hl E.sl
 exact ⟨E.sub,pm.nodup_iff.mp E.nd,fun a h=>E.off a (pm.mem_iff.mpr h),Paired.app s2 s1⟩
theorem callee {K:PySem.W.Frag} {Pr H H':Hp} {σ τ:St} {ρ ls ls':Ev} {v:Option V} {r:L} (hl:τ.length=ls.length) (E:REnv K Pr H (τ++σ) (ls++ρ)) (E':REnv K (a0 H ls) H' (v::τ) (r::ls')):REnv K Pr H' (v::(τ++σ)) (r::(ls'++ρ)):=by
 have hρ:σ.length=ρ.length:=(E.drop hl).len
 have z:=REnv.step (τ:=σ) (σ:=τ) (lam:=ρ) (ρ:=ls) (w:=[v]) (μ:=[r]) (E.swap hl) hρ E' rfl
 have hl':τ.length=ls'.length:=by have:=E'.len; simpa using this
 obtain ⟨s1,s2⟩:=Paired.unapp (a:=[v]) (b:=[r]) rfl z.sl
 obtain ⟨s2,s3⟩:=Paired.unapp hρ s2
 have pm:(owns ([r]++(ρ++ls'))).Perm (owns (r::(ls'++ρ))):=owns_perm (List.Perm.cons r (List.perm_append_comm (l₁:=ρ) (l₂:=ls')))
 exact ⟨z.sub,pm.nodup_iff.mp z.nd,fun a h=>z.off a (pm.mem_iff.mpr h),Paired.app s1 (Paired.app s3 s2)⟩
def av (fs:FS) (t:W (List L)):W L:=fun ρ post=>t ρ fun ls ρ1=>fs ls fun r _=>post r ρ1
def a8 (fs:FS) (k i:Nat) (t:W (List L)):W L:=fun ρ post=>t ρ fun ls ρ1=>match ρ1[i]? with
 | some (.own a xs)=>fs (ls.set k (.own a xs)) fun r ls'=>∃ ys,ls'[k]?=some (.own a ys)∧post r (ρ1.set i (.own a ys))
 | _=>False
section
variable {CX:CXT} {k n:Nat} {f:Addr} {fd:FuncData} {ps:List Str} {fs:FS} {E:XK} {x:Str} {p:Pos} {bs:List (Option Nat)} {t:W (List L)}
theorem REnv.drop1 {K:PySem.W.Frag} {Pr H:Hp} {σ τ:St} {ρ lam:Ev} {v:Option V} {r:L} (hl:τ.length=lam.length) (E:REnv K Pr H (v::(τ++σ)) (r::(lam++ρ))):REnv K Pr H (v::σ) (r::ρ):=by
 obtain ⟨s1,s2⟩:=Paired.unapp (a:=[v]) (b:=[r]) rfl E.sl
 obtain ⟨s2,s3⟩:=Paired.unapp hl s2
 have sb:(owns (r::ρ)).Sublist (owns (r::(lam++ρ))):=owns_sub (List.Sublist.cons_cons r (List.sublist_append_right _ _))
 exact ⟨E.sub,E.nd.sublist sb,fun a h=>E.off a (sb.subset h),Paired.app s1 s3⟩
theorem pl_call (F:FnOk X.prog X.w X.K X.mg X.base CX k f fd ps (spF X.K n fs)) (hr:Room k X.A) (hg:Gl X x) (hm:X.mg x=some (.ref f)) (hk:PySem.W.keepIn X.K (.ref f)=true) (hb:Binds X.K fd ps []) (hx:Passes CX X E)
  (ha:PAL X (e::es) bs t) (hn:bs.length=n) (hdb:(x == ("__debug__" : Str))=false:=by decide) (he:starEach (e::es) X.env=(false,eval e X.env)::starEach es X.env:=by rfl) (hpl:(backTo pos (starEach es X.env)).any (·.1)=false:=by rfl) :
  PL X (.Call (.Name x p) (e::es) [] pos) (av fs t):=by
 intro pins s σ H Pr ρ post I E0 h
 refine wpAny_Call_Name_kw (ld_glob I hg hm ?_ hdb)
 refine PySem.W.callWith_K (h₀:=X.base) I.ok.mod.kin hk (thn (ha pos pins s σ H Pr ρ _ I E0 h) fun us s1 ⟨vs,H1,ls,ρ1,I1,r,hl,hbl,E1,hv,q⟩=>⟨I1.kIn,?_⟩) he hpl
 have hl':(vs.map some).length=ls.length:=by simp [hl]
 refine thn (run_fn (Q:=fun v H'=>∃ r ρ',REnv X.K Pr H' (some v::σ) (r::ρ')∧post r ρ') F hr hb .nil hx I1 r ?_) fun u s2 ⟨v,H2,I2,rv,r,ρ',E2,p⟩=>⟨v,H2,r,ρ',I2,rv,E2,p⟩
 rw [List.append_nil]
 refine ⟨hbl.trans hn,a0 H1 ls,ls,_,(E1.left hl').wide,q,fun v H' r ls' E2 p=>⟨r,ρ1,?_,p⟩⟩
 have z:=callee hl' E1 E2
 have hl2:(vs.map some).length=ls'.length:=by have:=E2.len; simpa using this
 exact z.drop1 hl2
theorem pl_callB (F:FnOk X.prog X.w X.K X.mg X.base CX k f fd ps (spF X.K n fs)) (hr:Room k X.A) (hg:Gl X x) (hm:X.mg x=some (.ref f)) (hk:PySem.W.keepIn X.K (.ref f)=true) (hb:Binds X.K fd ps []) (hx:Passes CX X E)
  (j i:Nat) (ha:PAL X (e::es) bs t) (hj:bs[j]?=some (some i)) (hn:bs.length=n) (hdb:(x == ("__debug__" : Str))=false:=by decide) (he:starEach (e::es) X.env=(false,eval e X.env)::starEach es X.env:=by rfl) (hpl:(backTo pos (starEach es X.env)).any (·.1)=false:=by rfl) :
  PL X (.Call (.Name x p) (e::es) [] pos) (a8 fs j i t):=by
 intro pins s σ H Pr ρ post I E0 h
 refine wpAny_Call_Name_kw (ld_glob I hg hm ?_ hdb)
 refine PySem.W.callWith_K (h₀:=X.base) I.ok.mod.kin hk (thn (ha pos pins s σ H Pr ρ _ I E0 h) fun us s1 ⟨vs,H1,ls,ρ1,I1,r,hl,hbl,E1,hv,q⟩=>⟨I1.kIn,?_⟩) he hpl
 have hl':(vs.map some).length=ls.length:=by simp [hl]
 refine thn (run_fn (Q:=fun v H'=>∃ r ρ',REnv X.K Pr H' (some v::σ) (r::ρ')∧post r ρ') F hr hb .nil hx I1 r ?_) fun u s2 ⟨v,H2,I2,rv,r,ρ',E2,p⟩=>⟨v,H2,r,ρ',I2,rv,E2,p⟩
 rw [List.append_nil]
 dsimp only at q
 cases qi:ρ1[i]? with
 | none=>rw [qi] at q; exact q.elim
 | some l =>
  rw [qi] at q
  cases l with
  | un=>exact q.elim
  | d y=>exact q.elim
  | bx _ _=>exact q.elim
  | own a xs =>
   obtain ⟨hun,w,hw,hσ⟩:=hv j i hj
   obtain ⟨sv,hs2,rfl,_⟩:=(E1.drop hl').slot qi
   rw [hσ] at hs2
   cases hs2
   have hjl:j < ls.length:=(List.getElem?_eq_some_iff.mp hun).1
   have hjv:j < vs.length:=by omega
   have hil:i < ρ1.length:=(List.getElem?_eq_some_iff.mp qi).1
   have E2:=E1.out (i:=ls.length+i) (a:=a) (xs:=xs) (by rw [List.getElem?_append_right (by omega)]; simpa using qi)
   rw [List.set_append_right _ _ (by omega),Nat.add_sub_cancel_left] at E2
   have E3:=E2.back (i:=j) (by rw [List.getElem?_append_left hjl]; exact hun) (by rw [List.getElem?_append_left (by simp; omega)]; simp [hw])
   rw [List.set_append_left _ _ hjl] at E3
   have hl3:(vs.map some).length=(ls.set j (.own a xs)).length:=by simp [hl]
   refine ⟨hbl.trans hn,a0 H1 (ls.set j (.own a xs)),_,_,(E3.left hl3).wide,q,fun v H' r ls' E4 p=>?_⟩
   obtain ⟨ys,hys,p⟩:=p
   refine ⟨r,ρ1.set i (.own a ys),?_,p⟩
   have z:=callee hl3 E3 E4
   have hl4:(vs.map some).length=ls'.length:=by have:=E4.len; simpa using this
   have hjl':j < ls'.length:=by simp at hl4; omega
   have z1:=z.out (i:=1+j) (a:=a) (xs:=ys) (by rw [Nat.add_comm]; simp only [List.getElem?_cons_succ]; rw [List.getElem?_append_left hjl']; exact hys)
   rw [Nat.add_comm 1 j,List.set_cons_succ,List.set_append_left _ _ hjl'] at z1
   have z2:=z1.back (i:=(1+ls'.length)+i) (by
    rw [Nat.add_comm 1,Nat.add_right_comm,List.getElem?_cons_succ,List.getElem?_append_right (by simp)]
    simp [hil]) (by
    rw [Nat.add_comm 1,Nat.add_right_comm,List.getElem?_cons_succ,List.getElem?_append_right (by simp at hl4 ⊢; omega)]
    simp at hl4 ⊢
    rw [← hl4,Nat.add_sub_cancel_left]
    exact hσ)
   rw [Nat.add_comm 1,Nat.add_right_comm,List.set_cons_succ,List.set_append_right _ _ (by simp)] at z2
   simp only [List.length_set,Nat.add_sub_cancel_left,List.set_set] at z2
   exact z2.drop1 (by simp at hl4 ⊢; exact hl4)
end
end
end L2
namespace L2
open PySem PySem.Spec PyProof.Rows
def Back (ρ:Ev):List L→List L→Prop:=Paired fun l l'=>match l with
 | .own a _=>∃ ys,l'=.own a ys∧L.own a ys∈ρ
 | .bx _ _=>l'=.un
 | l=>l'=l
def aE (ls:List L) (post:L→List L→Prop):Fl→Ev→Prop:=fun f ρ=>match f with
 | .rt r=>∃ ls',Back ρ ls ls'∧post r ls'
 | .nx=>∃ ls',Back ρ ls ls'∧post (.d .non) ls'
 | _=>False
theorem Back.owns {ρ:Ev}:∀ {ls ls':List L},Back ρ ls ls'→(owns ls').Sublist (owns ls)
 | _,_,.nil=>.refl _
 | l::ls,l'::ls',.cons h t=>by
  have ih:=Back.owns t
  rw [aA,aA]
  cases l with
  | own a xs=>obtain ⟨ys,rfl,_⟩:=h; exact (List.Sublist.refl _).append ih
  | un=>have e:l'=.un:=h; subst e; exact (List.Sublist.refl _).append ih
  | d x=>have e:l'=.d x:=h; subst e; exact (List.Sublist.refl _).append ih
  | bx k ms=>have e:l'=.un:=h; subst e; exact ih.trans (List.sublist_append_right _ _)
theorem Back.sub {ρ:Ev}:∀ {ls ls':List L},Back ρ ls ls'→∀ a∈L2.owns ls',a∈L2.owns ρ
 | _,_,.nil=>fun a ha=>by simp [L2.owns] at ha
 | l::ls,l'::ls',.cons h t=>fun a ha=>by
  have ih:=Back.sub t
  rw [aA] at ha
  rcases List.mem_append.mp ha with z | z
  ·
   cases l with
   | own b xs =>
    obtain ⟨ys,rfl,hm⟩:=h
    have e:a=b:=by simpa [bz] using z
    subst e
    exact own_mem hm
   | un=>have e:l'=.un:=h; subst e; simp [bz] at z
   | d x=>have e:l'=.d x:=h; subst e; simp [bz] at z
   | bx k ms=>have e:l'=.un:=h; subst e; simp [bz] at z
  ·
   exact ih a z
theorem back_env {K:PySem.W.Frag} {Pr H H':Hp} {σ τ:St} {ls ls' ρ:Ev} {v:Option V} {r:L} (E:REnv K Pr H σ ls) (E':REnv K (a0 H ls) H' (v::τ) (r::ρ)) (B:Back ρ ls ls'):REnv K Pr H' (v::σ) (r::ls'):=by
 have E1:=E.narrow E'
 have p:Pres H H':=pres_of E E'.sub
 have sub:=B.sub
 have nd1:(owns ls').Nodup:=E.nd.sublist B.owns
 refine ⟨E1.sub,?_,fun a ha=>?_,?_⟩
 ·
  have nd:=E'.nd
  rw [aA] at nd ⊢
  obtain ⟨n1,n2,n3⟩:=List.nodup_append.mp nd
  exact List.nodup_append.mpr ⟨n1,nd1,fun a ha b hb=>n3 a ha b (sub b hb)⟩
 ·
  rw [aA] at ha
  refine E1.off a ?_
  rw [aA]
  rcases List.mem_append.mp ha with z | z
  ·
   exact List.mem_append_left _ z
  ·
   exact List.mem_append_right _ (sub a z)
 ·
  have s1:=E'.sl
  cases s1 with
  | cons q t =>
   refine .cons q ?_
   have sl:=E.sl
   clear E E' E1 nd1 sub
   induction B generalizing σ with
   | nil=>cases sl; exact .nil
   | cons h u ih =>
    rename_i l l' _ _
    cases sl with
    | cons s0 s2 =>
     refine .cons ?_ (ih s2)
     cases l with
     | own a xs =>
      obtain ⟨ys,rfl,hm⟩:=h
      obtain ⟨e,_⟩:=s0
      obtain ⟨_,_,_,z⟩:=Paired.mem2 t hm
      exact ⟨e,z⟩
     | un=>have e:l'=.un:=h; subst e; unfold bB; exact True.intro
     | bx k ms=>have e:l'=.un:=h; subst e; unfold bB; exact True.intro
     | d x =>
      have e:l'=.d x:=h
      subst e
      obtain ⟨w,e,r⟩:=s0
      exact ⟨w,e,r.pres p⟩
section
variable {P:Program} {w:World} {K:PySem.W.Frag} {mg:Str→Option Value} {base:Heap}
theorem REnv.uns {K:PySem.W.Frag} {Pr H:Hp} {σ:St} {ρ:Ev} (E:REnv K Pr H σ ρ):∀ n,REnv K Pr H (σ++List.replicate n none) (ρ++List.replicate n .un):=fun n=>by
 have e:owns (ρ++List.replicate n .un)=owns ρ:=by
  rw [aw]
  have:owns (List.replicate n L.un)=[]:=by
   induction n with
   | zero=>rfl
   | succ n ih=>rw [List.replicate_succ,owns_cons_un]; exact ih
  rw [this,List.append_nil]
 refine ⟨E.sub,by rw [e]; exact E.nd,fun a h=>E.off a (by rw [e] at h; exact h),Paired.app E.sl ?_⟩
 induction n with
 | zero=>exact .nil
 | succ n ih =>
  rw [List.replicate_succ,List.replicate_succ]
  refine .cons True.intro (ih ?_)
  have:owns (List.replicate n L.un)=[]:=by
   clear ih e
   induction n with
   | zero=>rfl
   | succ n ih=>rw [List.replicate_succ,owns_cons_un]; exact ih
  rw [aw,this,List.append_nil]
theorem aJ {x qual:Str} {st:Stmt} {f:Addr} {fd:FuncData} {N ps:List Str} {k:Nat} {fs:FS} (F:Fun K x qual st f fd) (S:aq N ps (ai st)) (t:W Fl)
  (hbody:∀ (cdv:Value) (A:Around) (outer:List Env) (s:Shared) (H:Hp) (E:XK),Room k (A.deeper (envOfC qual (ai st) s.heap.objs.size f cdv))→PMs (cxOf CX0 P w K mg base N qual (ai st) f cdv A outer s H E).nox (defBody st) t)
  (h:∀ ls post,ls.length=ps.length→fs ls post→t (ls++List.replicate (N.length - ps.length) .un) (aE ls post)):FnOk P w K mg base CX0 (k+1) f fd ps (spF K ps.length fs):=by
 refine F.ok S (fun vs H Q E q=>q.1) (fun cdv A outer s H vs Q E hr q=>?_)
 obtain ⟨hl,Pr,ls,post,E0,hf,q⟩:=q
 refine ⟨_,(hbody cdv A outer s H E hr).pss,a0 H ls,ls++List.replicate (N.length - ps.length) .un,aE ls post,?_,h ls post (by rw [← hl]; have:=E0.len; simpa using this.symm) hf,fun σ' H' ρ' E' p=>?_,fun _ _ _ _ p=>p.elim,fun _ _ _ _ p=>p.elim,fun v τ H' r ρ' E' p=>?_⟩
 ·
  unfold start
  rw [hl]
  exact E0.wide.uns _
 ·
  obtain ⟨ls',B,p⟩:=p
  exact q .non H' (.d .non) ls' (back_env E0 (E'.cons_d .non) B) p
 ·
  obtain ⟨ls',B,p⟩:=p
  exact q v H' r ls' (back_env E0 E' B) p
end
theorem az {ρ:Ev}:Back ρ [] []:=.nil
theorem ag {ρ:Ev} {x:D} {a b:List L} (t:Back ρ a b):Back ρ (.d x::a) (.d x::b):=.cons rfl t
theorem dS {ρ:Ev} {p:Addr} {xs ys:List D} {a b:List L} (h:L.own p ys∈ρ) (t:Back ρ a b):Back ρ (.own p xs::a) (.own p ys::b):=.cons ⟨ys,rfl,h⟩ t
section
variable {X:Cx} {e a b c tg:Expr} {es rest:List Expr} {pos:Pos} {ta tb tc:W L} {tA tB:W Bool} {st:Stmt} {sts:List Stmt} {t u:W Fl}
def wWhile (c:W Bool) (b:W Fl):W Fl:=fun ρ post=>∃ J:Nat→Ev→Prop,(∃ n,J n ρ)∧∀ n ρ,J n ρ→c ρ fun t ρ1=>if t=true then b ρ1 fun f ρ2=>(match f with
 | .nx=>∃ m,m < n∧J m ρ2
 | .ct=>∃ m,m < n∧J m ρ2
 | .bk=>post .nx ρ2
 | .rt r=>post (.rt r) ρ2) else post .nx ρ1
theorem pm_while {body:List Stmt} (hp:PassesOwn (model X.prog X.w) X.A X.env X.xe) (hc:PB X c tA) (hb:PMs X body t):PM X (.While c body [] pos) (wWhile tA t):=by
 refine PM.of (ps_while hp hc.pt hb.pss) fun σ H Pr ρ post hlen E h=>?_
 obtain ⟨J,⟨n0,j0⟩,turn⟩:=h
 refine ⟨fun n σ H=>∃ ρ,REnv X.K Pr H σ ρ∧J n ρ,⟨n0,ρ,E,j0⟩,fun n σ1 H1 ⟨ρ1,E1,j1⟩=>⟨Pr,ρ1,_,E1,turn n ρ1 j1,fun b H2 ρ2 E2 q=>?_⟩⟩
 cases b with
 | false=>exact ⟨ρ2,E2,q⟩
 | true =>
  refine ⟨fun σ' H'=>∃ ρ' m,REnv X.K Pr H' σ' ρ'∧m < n∧J m ρ',fun σ' H' ⟨ρ',m,E',hm,j⟩=>⟨m,hm,ρ',E',j⟩,Pr,ρ2,_,E2,q,fun σ' H' ρ' E' ⟨m,hm,j⟩=>⟨ρ',m,E',hm,j⟩,fun σ' H' ρ' E' p=>⟨ρ',E',p⟩,fun σ' H' ρ' E' ⟨m,hm,j⟩=>⟨ρ',m,E',hm,j⟩,fun v τ H' r ρ' E' p=>⟨τ,r,ρ',E',p⟩⟩
abbrev Tg:=D→Ev→(Ev→Prop)→Prop
def PT1 (X:Cx) (tg:Expr) (g:Tg):Prop:=∃ gg:TG,PG X tg gg∧∀ v σ H Pr ρ x k,σ.length=X.N.length→REnv X.K Pr H σ ρ→Rep X.K H v x→g x ρ k→gg v σ H fun σ' H'=>H'=H∧σ'.length=X.N.length∧∃ ρ',REnv X.K Pr H σ' ρ'∧k ρ'
def aK (i:Nat):Tg:=fun x ρ k=>k (ρ.set i (.d x))
theorem fz {i:Nat} {x:Str} (hN:X.N.Nodup) (hi:X.N[i]?=some x) (hx:Loc X.env.scope x) (hf:X.fn x=true∨X.env.scope.names.lookup x=some .local:=by first | exact .inl rfl | exact .inr rfl | assumption):PT1 X (.Name x pos) (aK i) :=
 ⟨_,pg_name hN hi hx hf,fun v σ H Pr ρ x k hl E r h=>⟨rfl,by simpa using hl,_,(E.cons_d r).store (by rw [hl]; exact (List.getElem?_eq_some_iff.mp hi).1),h⟩⟩
def ej:List Nat→List D→Ev→(Ev→Prop)→Prop
 | [],[],ρ,k=>k ρ
 | i::is,x::xs,ρ,k=>ej is xs (ρ.set i (.d x)) k
 | _,_,_,_=>False
def PTs (X:Cx) (es:List Expr) (is:List Nat):Prop:=∃ gg:TGs,PGs X es gg∧es.length=is.length∧∀ vs σ H Pr ρ xs k,σ.length=X.N.length→REnv X.K Pr H σ ρ→Reps X.K H vs xs→ej is xs ρ k→gg vs σ H fun σ' H'=>H'=H∧σ'.length=X.N.length∧∃ ρ',REnv X.K Pr H σ' ρ'∧k ρ'
theorem tgs_nil:PTs X [] []:=⟨_,pgs_nil,rfl,fun vs σ H Pr ρ xs k hl E r h=>by
 cases r with
 | nil=>exact ⟨rfl,rfl,hl,ρ,E,h⟩
 | cons _ _=>exact h.elim⟩
theorem bi {i:Nat} {is:List Nat} {x:Str} (hN:X.N.Nodup) (hi:X.N[i]?=some x) (hx:Loc X.env.scope x) (hr:PTs X es is) (hf:X.fn x=true∨X.env.scope.names.lookup x=some .local:=by first | exact .inl rfl | exact .inr rfl | assumption)
  (hs:(assignEach (.Name x pos::es) X.env).map (·.2)=assign (.Name x pos) X.env::(assignEach es X.env).map (·.2):=by rfl):PTs X (.Name x pos::es) (i::is):=by
 obtain ⟨gg,hg,hlen,q⟩:=hr
 refine ⟨_,pgs_cons (pg_name hN hi hx hf) hg hs,by simp [hlen],fun vs σ H Pr ρ xs k hl E r h=>?_⟩
 cases r with
 | nil=>exact h.elim
 | cons r0 t =>
  refine ⟨_,_,rfl,?_⟩
  exact q _ _ H Pr _ _ k (by simpa using hl) ((E.cons_d r0).store (by rw [hl]; exact (List.getElem?_eq_some_iff.mp hi).1)) t h
def dj (is:List Nat):Tg:=fun x ρ k=>match x with
 | .tup xs=>ej is xs ρ k
 | _=>False
theorem tgNames_len:∀ {is:List Nat} {xs:List D} {ρ:Ev} {k:Ev→Prop},ej is xs ρ k→xs.length=is.length
 | [],[],_,_,_=>rfl
 | _::is,_::xs,_,_,h=>by simp [tgNames_len (is:=is) (xs:=xs) h]
 | [],_::_,_,_,h=>h.elim
 | _::_,[],_,_,h=>h.elim
theorem tg_tup {is:List Nat} {k:Nat} (hc:X.calm=true) (h:PTs X es is) (hn:(assignEach es X.env).length=is.length:=by rfl) (hst:(assignEach es X.env).findIdx? (·.1)=none:=by rfl):PT1 X (.Tuple es k pos) (dj is):=by
 obtain ⟨gg,hg,hlen,q⟩:=h
 refine ⟨_,pg_tup hc hg hn hst,fun v σ H Pr ρ x k hl E r h=>?_⟩
 cases r with
 | tup hs rs=>exact ⟨_,_,rfl,hs,by rw [rs.length]; exact tgNames_len h,q _ σ H Pr ρ _ k hl E rs h⟩
 | _=>exact h.elim
def dk (g:Tg) (b:W Fl):List D→W Fl
 | []=>fun ρ post=>post .nx ρ
 | x::xs=>fun ρ post=>g x ρ fun ρ1=>b ρ1 fun f ρ2=>match f with
  | .nx=>dk g b xs ρ2 post
  | .ct=>dk g b xs ρ2 post
  | .bk=>post .nx ρ2
  | .rt r=>post (.rt r) ρ2
def fA:D→(List D→Prop)→Prop
 | .lst xs,k=>k xs
 | .tup xs,k=>k xs
 | _,_=>False
def Grown (H H':Hp):Prop:=H'=H∨∃ p o,H p=none∧H'=upd H p o
theorem REnv.grown {K:PySem.W.Frag} {Pr H H':Hp} {σ:St} {ρ:Ev} (E:REnv K Pr H σ ρ) (g:Grown H H'):REnv K Pr H' σ ρ:=by
 rcases g with rfl | ⟨p,o,h,rfl⟩
 ·
  exact E
 ·
  exact E.new h
def Gives (K:PySem.W.Frag) (H:Hp) (J:It) (xs:List D):Prop:=∀ H',Pres H H' →
 (∀ i x,xs[i]?=some x→J.go i H'∧∀ v H2,J.yld i H' v H2→Grown H' H2∧Rep K H2 v x)∧J.stop xs.length H'
def EI (X:Cx) (pins:List (Addr×Obj)) (σ:St) (tg:Expr) (Pr:Hp) (post:List D→Ev→Prop) (itv:Value) (s2:Shared):Prop :=
 ∃ (it:Addr) (fp:List Addr) (tn:Nat→Heap→Prop) (J:It) (H':Hp) (xs:List D) (ρ':Ev),itv=.ref it∧Inv X pins σ H' s2∧Turn X.prog X.w X.K tg J fp it tn∧tn 0 s2.heap∧(∀ b∈fp,FpOk X pins H' b)∧REnv X.K Pr H' σ ρ'∧Gives X.K H' J xs∧post xs ρ'
def PIL (X:Cx) (tg iter:Expr) (w:W (List D)):Prop :=
 ∀ (pins:List (Addr×Obj)) (s:Shared) (σ:St) (H Pr:Hp) (ρ:Ev) (post:List D→Ev→Prop),Inv X pins σ H s→REnv X.K Pr H σ ρ→w ρ post →
  wpAny (model X.prog X.w) X.A (eval iter X.env) (fun v s1=>wpAny (model X.prog X.w) X.A (pyIter v) (EI X pins σ tg Pr post) X.xe s1) X.xe s
def wSrc (t:W L):W (List D):=fun ρ post=>t ρ fun r ρ1=>toD r fun x=>fA x fun xs=>post xs ρ1
theorem gives_list {K:PySem.W.Frag} {H:Hp} {a:Addr} {vs:List V} {xs:List D} (h:SqZ K H a vs) (r:Reps K H vs xs):Gives K H (Itl K a) xs:=fun H' p=>by
 have h':=(h.pres p).l
 refine ⟨fun i x e=>?_,⟨vs,h',by rw [r.length]; exact Nat.le_refl _⟩⟩
 obtain ⟨v,ev,rv⟩:=r.get e
 refine ⟨⟨vs,v,h',ev⟩,fun w H2 ⟨e1,e2⟩=>?_⟩
 have e3:=e2 vs h'
 rw [ev] at e3
 cases e3
 subst e1
 exact ⟨.inl rfl,rv.pres p⟩
theorem gives_tup {K:PySem.W.Frag} {H:Hp} {a:Addr} {vs:List V} {xs:List D} (h:SqT K H a vs) (r:Reps K H vs xs):Gives K H (Itt K a) xs:=fun H' p=>by
 have h':=h.pres p
 refine ⟨fun i x e=>?_,⟨vs,h',by rw [r.length]; exact Nat.le_refl _⟩⟩
 obtain ⟨v,ev,rv⟩:=r.get e
 refine ⟨⟨vs,v,h',ev⟩,fun w H2 ⟨e1,e2⟩=>?_⟩
 have e3:=e2 vs h'
 rw [ev] at e3
 cases e3
 subst e1
 exact ⟨.inl rfl,rv.pres p⟩
theorem a9 {t:W L} (h:PL X e t):PIL X tg e (wSrc t):=by
 intro pins s σ H Pr ρ post I E ht
 refine thn (h pins s σ H Pr ρ _ I E ht) fun u s1 q=>?_
 obtain ⟨v,H1,x,ρ1,I1,r1,E1,q2⟩:=EL.frz (post:=fun x ρ1=>fA x fun xs=>post xs ρ1) q
 obtain ⟨_,e1,p⟩:=E1.head_d
 cases e1
 cases p with
 | lst hz rs =>
  cases r1
  obtain ⟨its,rv,pl,hz'⟩:=I1.list hz.l
  refine wpAny_pyIter_list pl.isList ?_
  refine ⟨s1.heap.objs.size,[s1.heap.objs.size],_,_,H1,_,ρ1,rfl,I1.kept (t':=s1.toks) fun b o e=>Heap.get?_push_of_some _ e,turn_list _ _,⟨_,Heap.get?_push_size _ rfl,rfl,rfl⟩,fun b hb=>?_,E1.tail,gives_list hz rs,q2⟩
  have e:b=s1.heap.objs.size:=by simpa using hb
  subst e
  exact I1.fpOk (Nat.le_refl _) (I1.hok.fresh (Nat.le_refl _))
 | tup hz rs =>
  cases r1
  obtain ⟨its,rv,pl,hz'⟩:=I1.tuple hz
  refine wpAny_pyIter_tuple (show s1.heap.IsTuple _ its.toArray from pl) ?_
  refine ⟨s1.heap.objs.size,[s1.heap.objs.size],_,_,H1,_,ρ1,rfl,I1.kept (t':=s1.toks) fun b o e=>Heap.get?_push_of_some _ e,turn_tuple _ _,⟨_,Heap.get?_push_size _ rfl,rfl,rfl⟩,fun b hb=>?_,E1.tail,gives_tup hz rs,q2⟩
  have e:b=s1.heap.objs.size:=by simpa using hb
  subst e
  exact I1.fpOk (Nat.le_refl _) (I1.hok.fresh (Nat.le_refl _))
 | _=>exact q2.elim
def rngD (lo:Int) (n:Nat):List D:=(List.range n).map fun (i:Nat)=>.int (lo+(i:Int))
theorem gives_rng {K:PySem.W.Frag} {H:Hp} (lo:Int) (n:Nat):Gives K H (Itr lo n) (rngD lo n):=fun H' p=>by
 refine ⟨fun i x e=>?_,?_⟩
 ·
  have hi:i < n:=by
   have:=(List.getElem?_eq_some_iff.mp e).1
   simpa [rngD] using this
  refine ⟨hi,fun v H2 ⟨e1,e2⟩=>?_⟩
  subst e1 e2
  have:x=.int (lo+(i:Int)):=by
   unfold rngD at e
   rw [List.getElem?_map,List.getElem?_range hi] at e
   simpa using e.symm
  subst this
  exact ⟨.inl rfl,.int _⟩
 ·
  show n≤(rngD lo n).length
  simp [rngD]
def eU:L→(Int→Prop)→Prop
 | .d (.int i),k=>k i
 | _,_=>False
theorem cI {r:L} {k:Int→Prop} (h:eU r k):∃ i,r=.d (.int i)∧k i:=by
 cases r with
 | d x=>cases x with
  | int i=>exact ⟨i,rfl,h⟩
  | _=>exact h.elim
 | _=>exact h.elim
def smallI (j:Int):Prop:=-(2 ^ 62)≤j∧j < 2 ^ 62
def wRng1 (t:W L):W (List D):=fun ρ post=>t ρ fun r ρ1=>eU r fun j=>smallI j∧post (rngD 0 j.toNat) ρ1
def wRng2 (t u:W L):W (List D):=fun ρ post=>t ρ fun r ρ1=>eU r fun i=>u ρ1 fun r ρ2=>eU r fun j=>smallI i∧smallI j∧post (rngD i (j - i).toNat) ρ2
theorem da {t:W L} {p pos:Pos} (hg:Gl X "range") (hm:X.mg "range"=none) (ha:PL X a t) (hs:starEach [a] X.env=[(false,eval a X.env)]:=by rfl):PIL X tg (.Call (.Name "range" p) [a] [] pos) (wRng1 t):=by
 intro pins s σ H Pr ρ post I E h
 refine thn (pi_range1 (tg:=tg) hg hm (dh ha.pe pa_nil hs) hs pins s σ H (fun J H1=>∃ ρ1 n,J=Itr 0 n∧REnv X.K Pr H1 σ ρ1∧post (rngD 0 n) ρ1) I ?_) fun v s1 q=>thn q fun itv s2 ⟨it,fp,tn,J,H',e,I',T,t0,hf,ρ1,n,eJ,E1,q⟩=>?_
 ·
  refine ⟨Pr,ρ,_,E,h,fun v H' r ρ' E' p=>?_⟩
  obtain ⟨j,rfl,hj,p⟩:=cI p
  obtain ⟨_,e1,p1⟩:=E'.head_d
  cases e1
  cases p1
  exact ⟨j,rfl,hj.1,hj.2,ρ',_,rfl,E'.tail,p⟩
 ·
  subst eJ
  exact ⟨it,fp,tn,_,H',_,ρ1,e,I',T,t0,hf,E1,gives_rng 0 n,q⟩
theorem pil_rng2 {t u:W L} {p pos:Pos} (hg:Gl X "range") (hm:X.mg "range"=none) (ha:PL X a t) (hb:PL X b u) (hs:starEach [a,b] X.env=[(false,eval a X.env),(false,eval b X.env)]:=by rfl) (hs2:starEach [b] X.env=[(false,eval b X.env)]:=by rfl):PIL X tg (.Call (.Name "range" p) [a,b] [] pos) (wRng2 t u):=by
 intro pins s σ H Pr ρ post I E h
 refine thn (pi_range2 (tg:=tg) hg hm (dh ha.pe (dh hb.pe pa_nil hs2) (hs.trans (by rw [hs2]))) hs hs2 pins s σ H (fun J H1=>∃ ρ1 lo n,J=Itr lo n∧REnv X.K Pr H1 σ ρ1∧post (rngD lo n) ρ1) I ?_) fun v s1 q=>thn q fun itv s2 ⟨it,fp,tn,J,H',e,I',T,t0,hf,ρ1,lo,n,eJ,E1,q⟩=>?_
 ·
  refine ⟨Pr,ρ,_,E,h,fun v H' r ρ' E' p=>?_⟩
  obtain ⟨i,rfl,p⟩:=cI p
  obtain ⟨_,e1,p1⟩:=E'.head_d
  cases e1
  cases p1
  refine ⟨Pr,ρ',_,E'.tail,p,fun v H2 r ρ2 E2 p=>?_⟩
  obtain ⟨j,rfl,hi,hj,p⟩:=cI p
  obtain ⟨_,e1,p1⟩:=E2.head_d
  cases e1
  cases p1
  exact ⟨i,j,rfl,⟨hi.1,hi.2,hj.1,hj.2⟩,ρ2,_,_,rfl,E2.tail,p⟩
 ·
  subst eJ
  exact ⟨it,fp,tn,_,H',_,ρ1,e,I',T,t0,hf,E1,gives_rng lo n,q⟩
def wFor (s:W (List D)) (g:Tg) (b:W Fl):W Fl:=fun ρ post=>s ρ fun xs ρ1=>dk g b xs ρ1 post
theorem eV {iter:Expr} {body:List Stmt} {w:W (List D)} {g:Tg} (hp:PassesOwn (model X.prog X.w) X.A X.env X.xe) (hc:X.calm=true) (hi:PIL X tg iter w) (hg:PT1 X tg g) (hb:PMs X body t)
  (hs:∀ x,foldedSetIterable iter X.env x=pure x:=by intro _; rfl):PM X (.For tg iter body [] pos) (wFor w g t):=by
 intro pins s σ H Pr ρ post I E h
 obtain ⟨gg,hg,hgg⟩:=hg
 refine wpAny_For (thn (hi pins s σ H Pr ρ _ I E h) fun v s1 h1=>thn h1 fun itv s2 h2=>?_) hs
 obtain ⟨it,fp,tn,J,H2,xs,ρ2,e,I2,T,st2,f2,E2,G,w0⟩:=h2
 subst e
 have stat:∀ {H':Hp},(∀ b∈fp,H' b=none)→∀ b∈fp,FpOk X pins H' b:=fun hn b hb=>⟨hn b hb,(f2 b hb).2⟩
 refine codeAny_forLoop_any (fun n s'=>∃ i σ' H' ρ',n+i=xs.length∧Inv X pins σ' H' s'∧tn i s'.heap∧(∀ b∈fp,H' b=none)∧REnv X.K (a0 H2 ρ2) H' σ' ρ'∧dk g t (xs.drop i) ρ' post) ?_ xs.length ⟨0,σ,H2,ρ2,by omega,I2,st2,fun b hb=>(f2 b hb).1,E2.wide,by simpa using w0⟩
 rintro n s3 ⟨i,σ3,H3,ρ3,hn,I3,st3,fr3,E3,w3⟩
 obtain ⟨go,stop⟩:=G H3 (pres_of E2 E3.sub)
 by_cases hlt:i < xs.length
 ·
  obtain ⟨hgo,hy⟩:=go i xs[i] (List.getElem?_eq_getElem hlt)
  rw [List.drop_eq_getElem_cons hlt] at w3
  refine wpAny_passesOwn hp (thn (T.item X rfl rfl rfl hc i pins s3 σ3 H3 X.xe I3 (stat fr3) st3 hgo) fun r s4 ⟨u,hr,h4⟩=>?_)
  subst hr
  refine wpAny_passesOwn hp (thn h4 fun _ s5 ⟨x,H5,I5,r5,y5,st5,fr5⟩=>?_)
  obtain ⟨gr,rx⟩:=hy x H5 y5
  have I5':=I5.pinned (stat fr5) (T.obj _ _ st5)
  have E5:=E3.grown gr
  refine wpAny_passesOwn hp (thn (hg _ s5 σ3 H5 x u _ I5' r5 (hgg x σ3 H5 _ ρ3 xs[i] _ I5.len E5 rx w3)) fun _ s6 ⟨σ6,H6,I6,e6,hl6,ρ6,E6,q6⟩=>?_)
  subst e6
  refine wpAny_passesOwn hp (thn (hb _ s6 σ6 _ _ ρ6 _ I6 E6 q6) fun f s7 q7=>?_)
  have again:∀ {σ7:St} {H7:Hp} {ρ7:Ev},Inv X (pins++pinsAt fp s5.heap) σ7 H7 s7→REnv X.K (a0 H2 ρ2) H7 σ7 ρ7→dk g t (xs.drop (i+1)) ρ7 post →
    ∃ m,m < n∧∃ i σ' H' ρ',m+i=xs.length∧Inv X pins σ' H' s7∧tn i s7.heap∧(∀ b∈fp,H' b=none)∧REnv X.K (a0 H2 ρ2) H' σ' ρ'∧dk g t (xs.drop i) ρ' post:=fun {σ7 H7 ρ7} I7 E7 n7=>by
   refine ⟨n - 1,by omega,i+1,σ7,H7,ρ7,by omega,I7.unpinned,T.keep _ _ _ st5 fun b hb o e=>(I7.pin (b,o) (List.mem_append_right _ (List.mem_append_right _ (mem_pinsAt hb e)))).1,fun b hb=>?_,E7,n7⟩
   obtain ⟨o,e,d⟩:=T.obj _ _ st5 b hb
   exact (I7.pin (b,o) (List.mem_append_right _ (List.mem_append_right _ (mem_pinsAt hb e)))).2.1
  cases f with
  | next=>obtain ⟨σ7,H7,ρ7,I7,E7,n7⟩:=q7; exact again I7 E7 n7
  | cont=>obtain ⟨σ7,H7,ρ7,I7,E7,n7⟩:=q7; exact again I7 E7 n7
  | brk=>obtain ⟨σ7,H7,ρ7,I7,E7,q7⟩:=q7; exact ⟨σ7,H7,ρ7,I7.unpinned,E2.narrow E7,q7⟩
  | ret v=>obtain ⟨x7,σ7,H7,r,ρ7,τ,I7,r7,E7,q7⟩:=q7; exact ⟨x7,σ7,H7,r,ρ7,τ,I7.unpinned,r7,E2.narrow E7,q7⟩
 ·
  have e:i=xs.length:=by omega
  subst e
  refine wpAny_passesOwn hp (thn (T.done X rfl rfl rfl hc xs.length pins s3 σ3 H3 X.xe I3 (stat fr3) st3 stop) fun r s4 ⟨hr,I4⟩=>?_)
  subst hr
  rw [List.drop_length] at w3
  exact wpAny_execs_nil ⟨σ3,H3,ρ3,I4,E2.narrow E3,w3⟩
end
end L2
namespace L2
open PySem PySem.Spec PyProof.Rows
section
variable {X:Cx} {e a b c:Expr} {es rest:List Expr} {pos:Pos} {ta tb tc:W L}
def bM (i:Int):Prop:=i.natAbs < 2 ^ 1000000
def bI:Op2:=fun x y k=>match x,y with
 | .int i,.int j=>k (.d (.int (i+j)))
 | .str i,.str j=>i.length+j.length≤sizeLine∧k (.d (.str (i++j)))
 | .lst xs,.lst ys=>xs.length+ys.length≤sizeLine∧∀ a,k (.own a (xs++ys))
 | _,_=>False
def opSub:Op2:=fun x y k=>match x,y with
 | .int i,.int j=>k (.d (.int (i - j)))
 | _,_=>False
def opDiv:Op2:=fun x y k=>match x,y with
 | .int i,.int j=>j≠0∧j.natAbs < 2 ^ 9000∧k (.d (.int (i.fdiv j)))
 | _,_=>False
def eW:Op2:=fun x y k=>match x,y with
 | .int i,.int j=>j≠0∧k (.d (.int (i.fmod j)))
 | _,_=>False
def opPow:Op2:=fun x y k=>match x,y with
 | .int i,.int j=>0≤j∧j≤1000000∧i.natAbs < 2 ^ 64∧k (.d (.int (i ^ j.toNat)))
 | _,_=>False
def opLt:Op2:=fun x y k=>match x,y with
 | .int i,.int j=>k (.d (.bl (decide (i < j))))
 | _,_=>False
def opLe:Op2:=fun x y k=>match x,y with
 | .int i,.int j=>k (.d (.bl (decide (i≤j))))
 | _,_=>False
def opGt:Op2:=fun x y k=>match x,y with
 | .int i,.int j=>k (.d (.bl (decide (j < i))))
 | _,_=>False
def opGe:Op2:=fun x y k=>match x,y with
 | .int i,.int j=>k (.d (.bl (decide (j≤i))))
 | _,_=>False
theorem bitsOk_ok {i j:Int} (h1:bM i) (h2:bM j):IntMulOk i j:=IntMulOk.of_le (PySem.intBits_le_iff.mpr h1) (PySem.intBits_le_iff.mpr h2) (by decide)
theorem opr_mul:OpR X (binaryOp .Mult) (rI (fun i j=>bM i∧bM j) fun i j=>.int (i*j)):=opI fun _ _ _ _ _ _ _ hc q=>mul_int q (bitsOk_ok hc.1 hc.2)
theorem opr_div:OpR X (binaryOp .FloorDiv) (rI (fun i j=>j≠0∧j.natAbs < 2 ^ 9000) fun i j=>.int (i.fdiv j)):=opI fun i j _ _ _ _ _ hc q=>floordiv_int hc.1 q (.inl (PyProof.noPylong_of_log2 ((Nat.log2_lt (by have:=hc.1; omega)).mpr hc.2)))
theorem opr_cat:OpR X (binaryOp .Add) (fun x y H Q=>∃ l b xs zs,x=.ref l∧y=.ref b∧SqL X.K H l xs∧SqL X.K H b zs∧xs.length+zs.length≤sizeLine∧∀ p,H p=none→Q (.ref p) (upd H p (.lst (xs++zs)))):=by
 intro pins s σ H x y v u Q I rx ry h
 obtain ⟨l,b,xs,zs,rfl,rfl,hH,hB,hz,q⟩:=h
 cases rx
 cases ry
 obtain ⟨its,r,⟨o,n,e,c,d,f⟩,z⟩:=I.list hH
 obtain ⟨its2,r2,⟨o2,n2,e2,c2,d2,f2⟩,z2⟩:=I.list hB
 obtain ⟨cl,dd,dt,sl⟩:=o
 obtain ⟨cl2,dd2,dt2,sl2⟩:=o2
 simp only at c f c2 f2
 subst c f c2 f2
 have hl:=r.length
 have hl2:=r2.length
 refine concat_meets ⟨_,e,rfl⟩ ⟨_,e2,rfl⟩ noFill_list_add seq_list_add PySem.F.slot_list_add PySem.F.entry_list_add (PySem.F.args_list_add_2 _ _) (list_addW l b its.toArray its2.toArray n n2 dd dd2 sl sl2 (by rw [List.size_toArray,List.size_toArray]; omega)) ⟨e,e2,?_⟩
 have ea:its.toArray++its2.toArray=(its++its2).toArray:=by simp
 rw [ea]
 exact ⟨.ref _,_,I.lnew (t':=s.toks) (r.append r2) (by rw [List.length_append]; omega),rfl,q _ I.fresh⟩
theorem aY:OpD X (binaryOp .Add) bI:=by
 intro pins s σ H Pr ρ x y v u dx dy post I rx ry E px py ho
 cases px with
 | int i =>
  cases py with
  | int j=>exact OpD.of op_add (op:=fun x y k=>∃ i j,x=.int i∧y=.int j∧k (.d (.int (i+j)))) (fun σ H Pr ρ x y dx dy post E px py ⟨i,j,e1,e2,h⟩=>by subst e1 e2; cases px; cases py; exact ⟨i,j,rfl,rfl,_,E.cons_d (.int _),h⟩) pins s σ H Pr ρ _ _ v u _ _ post I rx ry E (.int i) (.int j) ⟨i,j,rfl,rfl,ho⟩
  | _=>exact ho.elim
 | str i =>
  cases py with
  | str j=>exact OpD.of op_add_str (op:=fun x y k=>∃ i j,x=.str i∧y=.str j∧i.length+j.length≤sizeLine∧k (.d (.str (i++j)))) (fun σ H Pr ρ x y dx dy post E px py ⟨i,j,e1,e2,z,h⟩=>by subst e1 e2; cases px; cases py; exact ⟨i,j,rfl,rfl,z,_,E.cons_d (.str _),h⟩) pins s σ H Pr ρ _ _ v u _ _ post I rx ry E (.str i) (.str j) ⟨i,j,rfl,rfl,ho.1,ho.2⟩
  | _=>exact ho.elim
 | lst h1 r1 =>
  cases py with
  | lst h2 r2 =>
   refine OpD.of opr_cat (op:=fun x y k=>∃ xs ys,x=.lst xs∧y=.lst ys∧xs.length+ys.length≤sizeLine∧∀ a,k (.own a (xs++ys))) (fun σ H Pr ρ x y dx dy post E px py ⟨xs,ys,e1,e2,z,h⟩=>?_) pins s σ H Pr ρ _ _ v u _ _ post I rx ry E (.lst h1 r1) (.lst h2 r2) ⟨_,_,rfl,rfl,ho.1,ho.2⟩
   subst e1 e2
   cases px with
   | lst h1 r1 =>
    cases py with
    | lst h2 r2=>exact ⟨_,_,_,_,rfl,rfl,h1.l,h2.l,by rw [r1.length,r2.length]; exact z,fun p hp=>⟨_,E.cons_own hp (r1.append r2),h p⟩⟩
  | _=>exact ho.elim
 | _=>cases py <;> exact ho.elim
theorem od_int {f:Value→Value→Sem Value} {C:Int→Int→Prop} {g:Int→Int→V} {gd:Int→Int→D} (h:OpR X f (rI C g)) (hg:∀ K H i j,Rep K H (g i j) (gd i j)) :
  OpD X f (fun x y k=>∃ i j,x=.int i∧y=.int j∧C i j∧k (.d (gd i j))) :=
 OpD.of h fun σ H Pr ρ x y dx dy post E px py ⟨i,j,e1,e2,z,h⟩=>by subst e1 e2; cases px; cases py; exact ⟨i,j,rfl,rfl,z,_,E.cons_d (hg _ _ _ _),h⟩
theorem od_int0 {f:Value→Value→Sem Value} {g:Int→Int→V} {gd:Int→Int→D} (h:OpR X f (rI0 g)) (hg:∀ K H i j,Rep K H (g i j) (gd i j)) :
  OpD X f (fun x y k=>∃ i j,x=.int i∧y=.int j∧k (.d (gd i j))) :=
 OpD.of h fun σ H Pr ρ x y dx dy post E px py ⟨i,j,e1,e2,h⟩=>by subst e1 e2; cases px; cases py; exact ⟨i,j,rfl,rfl,_,E.cons_d (hg _ _ _ _),h⟩
theorem od_sub:OpD X (binaryOp .Sub) opSub:=(od_int0 op_sub (gd:=fun i j=>.int (i - j)) fun _ _ _ _=>.int _).imp fun x y k h=>by
 unfold opSub at h
 split at h
 ·
  exact ⟨_,_,rfl,rfl,h⟩
 ·
  exact h.elim
theorem od_mul:OpD X (binaryOp .Mult) (fun x y k=>∃ i j,x=.int i∧y=.int j∧(bM i∧bM j)∧k (.d (.int (i*j)))):=od_int opr_mul (gd:=fun i j=>.int (i*j)) fun _ _ _ _=>.int _
def aV:Op2:=fun x y k=>match x,y with
 | .int i,.int j=>bM i∧bM j∧k (.d (.int (i*j)))
 | _,_=>False
theorem aO:OpD X (binaryOp .Mult) aV:=od_mul.imp fun x y k h=>by
 unfold aV at h
 split at h
 ·
  exact ⟨_,_,rfl,rfl,⟨h.1,h.2.1⟩,h.2.2⟩
 ·
  exact h.elim
theorem od_div:OpD X (binaryOp .FloorDiv) opDiv:=(od_int opr_div (gd:=fun i j=>.int (i.fdiv j)) fun _ _ _ _=>.int _).imp fun x y k h=>by
 unfold opDiv at h
 split at h
 ·
  exact ⟨_,_,rfl,rfl,⟨h.1,h.2.1⟩,h.2.2⟩
 ·
  exact h.elim
theorem cP:OpD X (binaryOp .Mod) eW:=(od_int op_modN (gd:=fun i j=>.int (i.fmod j)) fun _ _ _ _=>.int _).imp fun x y k h=>by
 unfold eW at h
 split at h
 ·
  exact ⟨_,_,rfl,rfl,h.1,h.2⟩
 ·
  exact h.elim
theorem od_pow:OpD X (binaryOp .Pow) opPow:=(od_int op_pow (gd:=fun i j=>.int (i ^ j.toNat)) fun _ _ _ _=>.int _).imp fun x y k h=>by
 unfold opPow at h
 split at h
 ·
  exact ⟨_,_,rfl,rfl,⟨h.1,h.2.1,h.2.2.1⟩,h.2.2.2⟩
 ·
  exact h.elim
theorem od_lt:OpD X (compareOp .Lt) opLt:=(od_int0 op_lt (gd:=fun i j=>.bl (decide (i < j))) fun _ _ _ _=>.bl _).imp fun x y k h=>by
 unfold opLt at h
 split at h
 ·
  exact ⟨_,_,rfl,rfl,h⟩
 ·
  exact h.elim
theorem od_le:OpD X (compareOp .LtE) opLe:=(od_int0 op_le (gd:=fun i j=>.bl (decide (i≤j))) fun _ _ _ _=>.bl _).imp fun x y k h=>by
 unfold opLe at h
 split at h
 ·
  exact ⟨_,_,rfl,rfl,h⟩
 ·
  exact h.elim
theorem od_gt:OpD X (compareOp .Gt) opGt:=(od_int0 op_gt (gd:=fun i j=>.bl (decide (j < i))) fun _ _ _ _=>.bl _).imp fun x y k h=>by
 unfold opGt at h
 split at h
 ·
  exact ⟨_,_,rfl,rfl,h⟩
 ·
  exact h.elim
theorem od_ge:OpD X (compareOp .GtE) opGe:=(od_int0 op_ge (gd:=fun i j=>.bl (decide (j≤i))) fun _ _ _ _=>.bl _).imp fun x y k h=>by
 unfold opGe at h
 split at h
 ·
  exact ⟨_,_,rfl,rfl,h⟩
 ·
  exact h.elim
mutual
def toP:D→PyData
 | .non=>.none
 | .bl b=>.bool b
 | .int i=>.int i
 | .str x=>.str x
 | .tup xs=>.tuple (toPs xs)
 | .lst xs=>.list (toPs xs)
 | .dct _=>.dict []
def toPs:List D→List PyData
 | []=>[]
 | x::xs=>toP x::toPs xs
end
def eqD (x y:D):Bool:=PyData.eqv (toP x) (toP y)
def bf (x:D):Prop:=SeqAt.shaped (toP x)=true
def opEq:Op2:=fun x y k=>bf x∧bf y∧k (.d (.bl (eqD x y)))
def opNe:Op2:=fun x y k=>bf x∧bf y∧k (.d (.bl (!eqD x y)))
mutual
theorem reads_of {pins:List (Addr×Obj)} {σ:St} {H:Hp} {s:Shared} (I:Inv X pins σ H s):∀ (d:D) (x:V) (u:Value),RelV x u→Rep X.K H x d→(toP d).canLay0=true→∃ as,Reads s.heap u (toP d) as
 | .non,_,_,rv,r,_=>by cases r; cases rv; exact ⟨_,.none⟩
 | .bl b,_,_,rv,r,_=>by cases r; cases rv; exact ⟨_,.bool b⟩
 | .int i,_,_,rv,r,_=>by cases r; obtain ⟨t,rfl⟩:=rv; exact ⟨_,.int i t⟩
 | .str z,_,_,rv,r,_=>by cases r; obtain ⟨t,rfl⟩:=rv; exact ⟨_,.str z t⟩
 | .tup xs,_,_,rv,r,hc=>by
  cases r with
  | tup h rs =>
   cases rv
   obtain ⟨its,vs,⟨o,e,c,n,d⟩,_⟩:=I.tuple h
   obtain ⟨as,ra⟩:=dl I xs _ _ vs rs hc
   exact ⟨_,.tuple (xs:=toPs xs) e c d (by simpa using ra)⟩
 | .lst xs,_,_,rv,r,hc=>by
  cases r with
  | lst h rs =>
   cases rv
   obtain ⟨its,vs,⟨o,n,e,c,_,d⟩,_⟩:=I.list h.l
   obtain ⟨as,ra⟩:=dl I xs _ _ vs rs hc
   exact ⟨_,.list (xs:=toPs xs) e c d (by simpa using ra)⟩
 | .dct _,_,_,_,_,hc=>nomatch hc
theorem dl {pins:List (Addr×Obj)} {σ:St} {H:Hp} {s:Shared} (I:Inv X pins σ H s):∀ (ds:List D) (vs:List V) (us:List Value),Vals vs us→Reps X.K H vs ds→PyData.canLayAll0 (toPs ds)=true→∃ as,ReadsAll s.heap us (toPs ds) as
 | [],_,_,rv,r,_=>by cases r; cases rv; exact ⟨_,.nil⟩
 | d::ds,_,_,rv,r,hc=>by
  have hc':(toP d).canLay0=true∧PyData.canLayAll0 (toPs ds)=true:=by simpa [toPs,PyData.canLayAll0] using hc
  cases r with
  | cons r0 rs =>
   cases rv with
   | cons v0 vs =>
    obtain ⟨as,ra⟩:=reads_of I d _ _ v0 r0 hc'.1
    obtain ⟨bs,rb⟩:=dl I ds _ _ vs rs hc'.2
    exact ⟨_,.cons ra rb⟩
end
theorem cQ (hu:X.A.units+64 < cLine):OpD X (compareOp .Eq) opEq:=by
 intro pins s σ H Pr ρ x y v u dx dy post I rx ry E px py ⟨h1,h2,ho⟩
 obtain ⟨as,ra⟩:=reads_of I dx x v rx px (SeqAt.canLay_of_shaped h1)
 obtain ⟨bs,rb⟩:=reads_of I dy y u ry py (SeqAt.canLay_of_shaped h2)
 exact eq_dataH ra rb h1 h2 hu ⟨.bl _,H,_,I,rfl,E.cons_d (.bl _),ho⟩
theorem od_ne (hu:X.A.units+64 < cLine):OpD X (compareOp .NotEq) opNe:=by
 intro pins s σ H Pr ρ x y v u dx dy post I rx ry E px py ⟨h1,h2,ho⟩
 obtain ⟨as,ra⟩:=reads_of I dx x v rx px (SeqAt.canLay_of_shaped h1)
 obtain ⟨bs,rb⟩:=reads_of I dy y u ry py (SeqAt.canLay_of_shaped h2)
 exact ne_dataH ra rb h1 h2 hu ⟨.bl _,H,_,I,rfl,E.cons_d (.bl _),ho⟩
def anyEq (x:D) (xs:List D):Bool:=xs.any fun y=>eqD y x
theorem od_isN:OpD X (compareOp .Is) (fun x y k=>y=.non∧k (.d (.bl (match x with | .non=>true | _=>false)))):=OpD.of op_isN fun σ H Pr ρ x y dx dy post E px py ⟨e,h⟩=>by
 subst e
 cases py
 refine ⟨rfl,_,E.cons_d (.bl _),?_⟩
 cases px <;> exact h
theorem od_notN:OpD X (compareOp .IsNot) (fun x y k=>y=.non∧k (.d (.bl (match x with | .non=>false | _=>true)))):=OpD.of op_notN fun σ H Pr ρ x y dx dy post E px py ⟨e,h⟩=>by
 subst e
 cases py
 refine ⟨rfl,_,E.cons_d (.bl _),?_⟩
 cases px <;> exact h
def opIx:Op2:=fun x y k=>match x,y with
 | .lst xs,.int i=>∃ v,atI xs i=some v∧k (.d v)
 | .tup xs,.int i=>∃ v,atI xs i=some v∧k (.d v)
 | .str z,.int i=>z.length≤sizeLine∧∃ c,atI z.cps.toList i=some c∧k (.d (.str ⟨#[c]⟩))
 | _,_=>False
theorem atI_rep {K:PySem.W.Frag} {H:Hp} {vs:List V} {xs:List D} (r:Reps K H vs xs) {i:Int} {x:D} (h:atI xs i=some x):∃ v,atI vs i=some v∧Rep K H v x:=by
 unfold atI at h ⊢
 rw [r.length]
 cases q:ixN xs.length i with
 | none=>rw [q] at h; cases h
 | some j =>
  rw [q] at h
  exact r.get h
theorem ak (ha:PL X a ta) (hb:PL X b tb) (hs:PlainIx b):PL X (.Subscript a b pos) (wBin opIx ta tb):=by
 intro pins s σ H Pr ρ post I E h
 refine Subscript_ (two (R:=fun dx dy ρ2=>opIx dx dy fun r=>post r ρ2) ha hb I E h fun v u s2 x y H2 dx dy ρ2 I2 r1 r2 E2 p1 p2 q=>?_)
 have fin:∀ (Q:VK),(∀ z H',Q z H'→∃ r,REnv X.K Pr H' (some z::σ) (r::ρ2)∧post r ρ2)→∀ w s',EP X pins σ Q w s'→EL X pins σ Pr post w s':=fun Q hQ w s' ⟨z,H',I',rz,q⟩=>by
  obtain ⟨r,E',p⟩:=hQ z H' q
  exact ⟨z,H',r,ρ2,I',rz,E',p⟩
 have Eσ:=E2.tail.tail
 cases p2 with
 | int i =>
  cases p1 with
  | lst hz rs =>
   obtain ⟨z,hz',q⟩:=q
   obtain ⟨w,hw,rw⟩:=atI_rep rs hz'
   exact thn (ix_list a b pins s2 σ H2 _ _ v u (fun z H'=>z=w∧H'=H2) I2 r1 r2 ⟨_,_,i,w,rfl,rfl,hz.l,hw,rfl,rfl⟩ (hs _ _)) (fin _ fun z H' ⟨e1,e2⟩=>by subst e1 e2; exact ⟨_,Eσ.cons_d rw,q⟩)
  | tup hz rs =>
   obtain ⟨z,hz',q⟩:=q
   obtain ⟨w,hw,rw⟩:=atI_rep rs hz'
   exact thn (ix_tup a b pins s2 σ H2 _ _ v u (fun z H'=>z=w∧H'=H2) I2 r1 r2 ⟨_,_,i,w,rfl,rfl,hz,hw,rfl,rfl⟩ (hs _ _)) (fin _ fun z H' ⟨e1,e2⟩=>by subst e1 e2; exact ⟨_,Eσ.cons_d rw,q⟩)
  | str z =>
   obtain ⟨hz,c,hc,q⟩:=q
   exact thn (ix_str a b pins s2 σ H2 _ _ v u (fun z H'=>z=.str ⟨#[c]⟩∧H'=H2) I2 r1 r2 ⟨z,i,c,rfl,rfl,hz,hc,rfl,rfl⟩ (hs _ _)) (fin _ fun z H' ⟨e1,e2⟩=>by subst e1 e2; exact ⟨_,Eσ.cons_d (.str _),q⟩)
  | _=>exact q.elim
 | _=>cases p1 <;> exact q.elim
end
end L2
namespace L2
open PySem PySem.Spec PyProof.Rows
section
variable {X:Cx} {e a b c:Expr} {es rest:List Expr} {pos p apos:Pos} {ta tb tc:W L} {x:Str} {bs:List (Option Nat)} {t:W (List L)} {id T:String}
abbrev OpN:=List D→(L→Prop)→Prop
def eX (X:Cx) (f:Value) (op:OpN):Prop :=
 ∀ (pins:List (Addr×Obj)) (s:Shared) (σ:St) (H Pr:Hp) (ρ:Ev) (vs:List V) (us:List Value) (ds:List D) (post:L→Prop),Inv X pins σ H s→Vals vs us→REnv X.K Pr H σ ρ→Reps X.K H vs ds→op ds post →
  wpAny (model X.prog X.w) X.A (call f us) (fun w s'=>∃ z H' r,Inv X pins σ H' s'∧RelV z w∧REnv X.K Pr H' (some z::σ) (r::ρ)∧post r) X.xe s
theorem eX.of {f:Value} {r:List V→Hp→VK→Prop} {op:OpN} (h:CallR X f r) (q:∀ σ H Pr ρ vs ds post,REnv X.K Pr H σ ρ→Reps X.K H vs ds→op ds post→r vs H fun z H'=>∃ r,REnv X.K Pr H' (some z::σ) (r::ρ)∧post r):eX X f op :=
 fun pins s σ H Pr ρ vs us ds post I rv E ps ho=>thn (h pins s σ H vs us _ I rv (q σ H Pr ρ vs ds post E ps ho)) fun w s' ⟨z,H',I',rz,r,E',p⟩=>⟨z,H',r,I',rz,E',p⟩
def aL (op:OpN) (t:W (List L)):W L:=fun ρ post=>t ρ fun ls ρ1=>toDs ls fun ds=>op ds fun r=>post r ρ1
theorem aC (hc:eX X (.builtin id) op) (hg:Gl X x) (hm:X.mg x=none) (hv:bootBuiltins x=some (.builtin id)) (ha:PAL X (e::es) bs t) (hn:x≠"__name__":=by decide) (hdb:(x == ("__debug__" : Str))=false:=by decide)
  (he:starEach (e::es) X.env=(false,eval e X.env)::starEach es X.env:=by rfl) (hpl:(backTo pos (starEach es X.env)).any (·.1)=false:=by rfl):PL X (.Call (.Name x p) (e::es) [] pos) (aL op t):=by
 intro pins s σ H Pr ρ post I E h
 refine wpAny_Call_Name_kw (ld_blt I hg hm hv ?_ hn hdb)
 refine PyProof.Rows.callWith_builtin1 (thn (ha pos pins s σ H Pr ρ _ I E h) fun us s1 ⟨vs,H1,ls,ρ1,I1,r1,hl,hb,E1,_,q1⟩=>?_) he hpl
 obtain ⟨ds,rfl,q2⟩:=toDs_is q1
 have hlen:vs.length=ds.length:=by simpa using hl
 exact thn (hc pins s1 σ H1 Pr ρ1 vs us ds _ I1 r1 (E1.drop (by simp [hlen])) (reps_of hlen E1) q2) fun w s2 ⟨z,H2,r,I2,rz,E2,q⟩=>⟨z,H2,r,ρ1,I2,rz,E2,q⟩
theorem pl_callTD (hc:eX X (.type T) op) (hg:Gl X x) (hm:X.mg x=none) (hv:bootBuiltins x=some (.type T)) (ha:PAL X (e::es) bs t) (hn:x≠"__name__":=by decide) (hdb:(x == ("__debug__" : Str))=false:=by decide)
  (he:starEach (e::es) X.env=(false,eval e X.env)::starEach es X.env:=by rfl) (hpl:(backTo pos (starEach es X.env)).any (·.1)=false:=by rfl):PL X (.Call (.Name x p) (e::es) [] pos) (aL op t):=by
 intro pins s σ H Pr ρ post I E h
 refine wpAny_Call_Name_kw (ld_blt I hg hm hv ?_ hn hdb)
 refine PyProof.Rows.callWith_type1 (thn (ha pos pins s σ H Pr ρ _ I E h) fun us s1 ⟨vs,H1,ls,ρ1,I1,r1,hl,hb,E1,_,q1⟩=>?_) he hpl
 obtain ⟨ds,rfl,q2⟩:=toDs_is q1
 have hlen:vs.length=ds.length:=by simpa using hl
 exact thn (hc pins s1 σ H1 Pr ρ1 vs us ds _ I1 r1 (E1.drop (by simp [hlen])) (reps_of hlen E1) q2) fun w s2 ⟨z,H2,r,I2,rz,E2,q⟩=>⟨z,H2,r,ρ1,I2,rz,E2,q⟩
def bA:OpN:=fun ds k=>match ds with
 | [.lst xs]=>k (.d (.int xs.length))
 | [.tup xs]=>k (.d (.int xs.length))
 | [.str x]=>x.length≤sizeLine∧k (.d (.int x.length))
 | _=>False
theorem reps1 {K:PySem.W.Frag} {H:Hp} {vs:List V} {d:D} (r:Reps K H vs [d]):∃ v,vs=[v]∧Rep K H v d:=by
 cases r with
 | cons h t=>cases t; exact ⟨_,rfl,h⟩
theorem reps2 {K:PySem.W.Frag} {H:Hp} {vs:List V} {d d':D} (r:Reps K H vs [d,d']):∃ v w,vs=[v,w]∧Rep K H v d∧Rep K H w d':=by
 cases r with
 | cons h t=>cases t with
  | cons h' t=>cases t; exact ⟨_,_,rfl,h,h'⟩
theorem bg:eX X (.builtin "len") bA:=eX.of (call_len_seq.or call_len_str) fun σ H Pr ρ vs ds post E ps h=>by
 unfold bA at h
 split at h
 ·
  obtain ⟨v,rfl,r⟩:=reps1 ps
  cases r with
  | lst hz rs=>exact .inl ⟨_,_,rfl,.inl hz.l,_,E.cons_d (.int _),by rw [rs.length]; exact h⟩
 ·
  obtain ⟨v,rfl,r⟩:=reps1 ps
  cases r with
  | tup hz rs=>exact .inl ⟨_,_,rfl,.inr hz,_,E.cons_d (.int _),by rw [rs.length]; exact h⟩
 ·
  obtain ⟨v,rfl,r⟩:=reps1 ps
  cases r with
  | str z=>exact .inr ⟨_,rfl,h.1,_,E.cons_d (.int _),h.2⟩
 ·
  exact h.elim
def opAbs:OpN:=fun ds k=>match ds with
 | [.int i]=>k (.d (.int (if i < 0 then -i else i)))
 | _=>False
theorem cd_abs:eX X (.builtin "abs") opAbs:=eX.of call_abs fun σ H Pr ρ vs ds post E ps h=>by
 unfold opAbs at h
 split at h
 ·
  obtain ⟨v,rfl,r⟩:=reps1 ps
  cases r with
  | int i=>exact ⟨_,rfl,_,E.cons_d (.int _),h⟩
 ·
  exact h.elim
def opMax:OpN:=fun ds k=>match ds with
 | [.int i,.int j]=>k (.d (.int (if j > i then j else i)))
 | _=>False
def opMin:OpN:=fun ds k=>match ds with
 | [.int i,.int j]=>k (.d (.int (if j < i then j else i)))
 | _=>False
theorem cd_max (hc:X.calm=true):eX X (.builtin "max") opMax:=eX.of (call_max2 hc) fun σ H Pr ρ vs ds post E ps h=>by
 unfold opMax at h
 split at h
 ·
  obtain ⟨v,w,rfl,r,r'⟩:=reps2 ps
  cases r with
  | int i=>cases r' with
   | int j=>exact ⟨_,_,rfl,_,E.cons_d (.int _),h⟩
 ·
  exact h.elim
theorem cd_min (hc:X.calm=true):eX X (.builtin "min") opMin:=eX.of (call_min2 hc) fun σ H Pr ρ vs ds post E ps h=>by
 unfold opMin at h
 split at h
 ·
  obtain ⟨v,w,rfl,r,r'⟩:=reps2 ps
  cases r with
  | int i=>cases r' with
   | int j=>exact ⟨_,_,rfl,_,E.cons_d (.int _),h⟩
 ·
  exact h.elim
def opInt:OpN:=fun ds k=>match ds with
 | [.int i]=>k (.d (.int i))
 | [.bl b]=>k (.d (.int (if b then 1 else 0)))
 | _=>False
theorem cd_int:eX X (.type "int") opInt:=eX.of call_int1 fun σ H Pr ρ vs ds post E ps h=>by
 unfold opInt at h
 split at h
 ·
  obtain ⟨v,rfl,r⟩:=reps1 ps
  cases r with
  | int i=>exact .inl ⟨_,rfl,_,E.cons_d (.int _),h⟩
 ·
  obtain ⟨v,rfl,r⟩:=reps1 ps
  cases r with
  | bl i=>exact .inr ⟨_,rfl,_,E.cons_d (.int _),h⟩
 ·
  exact h.elim
def opList:OpN:=fun ds k=>match ds with
 | [.lst xs]=>∀ a,k (.own a xs)
 | [.tup xs]=>∀ a,k (.own a xs)
 | _=>False
theorem cd_list:eX X (.type "list") opList:=eX.of call_list_of fun σ H Pr ρ vs ds post E ps h=>by
 unfold opList at h
 split at h
 ·
  obtain ⟨v,rfl,r⟩:=reps1 ps
  cases r with
  | lst hz rs=>exact ⟨_,_,rfl,.inl hz.l,fun l hl=>⟨_,E.cons_own hl rs,h l⟩⟩
 ·
  obtain ⟨v,rfl,r⟩:=reps1 ps
  cases r with
  | tup hz rs=>exact ⟨_,_,rfl,.inr hz,fun l hl=>⟨_,E.cons_own hl rs,h l⟩⟩
 ·
  exact h.elim
def opTuple:OpN:=fun ds k=>match ds with
 | [.lst xs]=>k (.d (.tup xs))
 | [.tup xs]=>k (.d (.tup xs))
 | _=>False
def tyD:D→Value
 | .non=>.type "NoneType"
 | .bl _=>.type "bool"
 | .int _=>.type "int"
 | .str _=>.type "str"
 | .tup _=>.type "tuple"
 | .lst _=>.type "list"
 | .dct _=>.type "dict"
theorem isinst_D {pins:List (Addr×Obj)} {σ:St} {H:Hp} {s:Shared} {x:V} {u c:Value} {d:D} {b:Bool} {Q:Value→Shared→Prop} {A:Around} {E:Value→Shared→Prop} (I:Inv X pins σ H s) (rx:RelV x u) (r:Rep X.K H x d) (e:PySem.W.kitOne X.K (tyD d) c=some b) (h:∀ tk,Q (.bool b) { s with toks:=tk }) :
  wpAny (model X.prog X.w) A (call (.builtin "isinstance") [u,c]) Q E s:=by
 cases r with
 | non=>cases rx; exact PySem.W.kia_one PySem.W.kitx_none I.kIn True.intro e (fun z=>nomatch z) h
 | bl y=>cases rx; exact PySem.W.kia_one PySem.W.kitx_bool I.kIn True.intro e (fun z=>nomatch z) h
 | int i=>obtain ⟨t,rfl⟩:=rx; exact PySem.W.kia_one PySem.W.kitx_int I.kIn True.intro e (fun z=>nomatch z) h
 | str y=>obtain ⟨t,rfl⟩:=rx; exact PySem.W.kia_one PySem.W.kitx_str I.kIn True.intro e (fun z=>nomatch z) h
 | lst hz rs =>
  cases rx
  obtain ⟨its,_,⟨o,n,e1,c1,_,_⟩,_⟩:=I.list hz.l
  exact PySem.W.kia_one PySem.W.kitx_list I.kIn ⟨o,e1,c1⟩ e (fun z=>nomatch z) h
 | tup hz rs =>
  cases rx
  obtain ⟨its,_,⟨o,e1,c1,_⟩,_⟩:=I.tuple hz
  exact PySem.W.kia_one PySem.W.kitx_tuple I.kIn ⟨o,e1,c1⟩ e (fun z=>nomatch z) h
 | @dct a o kvs hz =>
  cases rx
  obtain ⟨_,_,_,vs,_,o',es,ep,h1,h2,_⟩:=(show ObjOk X.prog X.w H s.heap a (.frz o (.dK kvs)) from I.hok a _ hz)
  exact PySem.W.kia_one PySem.W.kitx_dict I.kIn ⟨o',h1,h2.1⟩ e (fun z=>nomatch z) h
def isTy (T:String):D→Bool
 | .non=>T == "NoneType"
 | .bl _=>T == "bool" || T == "int"
 | .int _=>T == "int"
 | .str _=>T == "str"
 | .tup _=>T == "tuple"
 | .lst _=>T == "list"
 | .dct _=>T == "dict"
def opIsT (T:String):D→(L→Prop)→Prop:=fun d k=>k (.d (.bl (isTy T d)))
theorem pl_isT {T:String} {y:Str} {py:Pos} (hT:∀ K d,PySem.W.kitOne K (tyD d) (.type T)=some (isTy T d)) (hg:Gl X "isinstance") (hm:X.mg "isinstance"=none) (hy:Gl X y) (hmy:X.mg y=none) (hby:bootBuiltins y=some (.type T)) (ha:PL X a ta)
  (hny:y≠"__name__":=by decide) (hdy:(y == ("__debug__" : Str))=false:=by decide)
  (h1:starEach [a,.Name y py] X.env=(false,eval a X.env)::starEach [.Name y py] X.env:=by rfl) (h2:starEach [.Name y py] X.env=[(false,eval (.Name y py) X.env)]:=by rfl) (hpl:(backTo pos (starEach [.Name y py] X.env)).any (·.1)=false:=by rfl) :
  PL X (.Call (.Name "isinstance" p) [a,.Name y py] [] pos) (wUn (opIsT T) ta):=by
 have cr:CallR X (.builtin "isinstance") (fun xs H Q=>∃ x d,xs=[x,.ty T]∧Rep X.K H x d∧Q (.bl (isTy T d)) H):=by
  intro pins s σ H xs us Q I rv h
  obtain ⟨x,d,rfl,r,q⟩:=h
  obtain ⟨u,w,rfl,r1,r2⟩:=vals2 rv
  cases r2
  exact isinst_D I r1 r (hT _ d) fun tk=>⟨.bl _,H,I.tok _,rfl,q⟩
 refine PL.of (pe_callB cr hg hm (by decide +kernel) (dh (am ha).pe (dh (pe_bltn hy hmy hby (v:=.ty T) rfl hny hdy) pa_nil h2) h1) (he:=h1) (hpl:=hpl)) fun σ H Pr ρ post E h=>?_
 refine ⟨Pr,ρ,fun r ρ1=>match r with
  | .d x=>opIsT T x fun r=>post r ρ1
  | _=>False,E,h,fun v H' r ρ' E' p=>?_⟩
 cases r with
 | d x =>
  obtain ⟨_,e1,p1⟩:=E'.head_d
  cases e1
  exact ⟨_,x,rfl,p1,_,ρ',E'.tail.cons_d (.bl _),p⟩
 | _=>exact p.elim
end
end L2
namespace L2
open PySem PySem.Spec PyProof.Rows
section
variable {X:Cx} {e a b c:Expr} {es rest:List Expr} {pos p apos cpos:Pos} {ta tb tc te:W L} {x:Str}
theorem REnv.updOwn {K:PySem.W.Frag} {Pr H:Hp} {σ:St} {ρ:Ev} {i:Nat} {l:Addr} {xs ys:List D} {vs:List V} (E:REnv K Pr H σ ρ) (q:ρ[i]?=some (.own l xs)) (r:Reps K H vs ys):REnv K Pr (upd H l (.lst vs)) σ (ρ.set i (.own l ys)):=by
 obtain ⟨sv,hs,rfl,_⟩:=E.slot q
 have hi:i < ρ.length:=(List.getElem?_eq_some_iff.mp q).1
 have E1:=(E.out q).write r
 have E2:=E1.back (i:=i) (by simp [hi]) hs
 rw [List.set_set] at E2
 exact E2
theorem REnv.ownAt {K:PySem.W.Frag} {Pr H:Hp} {σ:St} {ρ:Ev} {i:Nat} {l:Addr} {xs:List D} (E:REnv K Pr H σ ρ) (q:ρ[i]?=some (.own l xs)):σ[i]?=some (some (.ref l))∧∃ vs,H l=some (.lst vs)∧Reps K H vs xs:=by
 obtain ⟨sv,hs,rfl,r⟩:=E.slot q
 exact ⟨hs,r⟩
def ownV (i:Nat) (ρ:Ev) (k:Addr→List D→Prop):Prop:=match ρ[i]? with
 | some (.own a xs)=>k a xs
 | _=>False
theorem dm {i:Nat} {ρ:Ev} {k:Addr→List D→Prop} (h:ownV i ρ k):∃ a xs,ρ[i]?=some (.own a xs)∧k a xs:=by
 unfold ownV at h
 cases q:ρ[i]? with
 | none=>rw [q] at h; exact h.elim
 | some l =>
  rw [q] at h
  cases l with
  | own a xs=>exact ⟨a,xs,rfl,h⟩
  | un=>exact h.elim
  | d x=>exact h.elim
  | bx _ _=>exact h.elim
def wApp (i:Nat) (te:W L):W L:=fun ρ post=>ownV i ρ fun _ _=>te ρ fun r ρ1=>toD r fun y=>ownV i ρ1 fun a xs=>xs.length < sizeLine∧post (.d .non) (ρ1.set i (.own a (xs++[y])))
theorem eY (i:Nat) (he:PL X e te) (hN:X.N[i]?=some x:=by rfl) (hv:Vis X.env.scope x:=by first | exact Or.inl rfl | exact Or.inr (Or.inl rfl) | exact Or.inr (Or.inr rfl)) (hd:(x == ("__debug__" : Str))=false:=by decide)
  (hcd:(x == ("__classdict__" : Str))=false:=by decide) (hs1:starEach [e] X.env=[(false,eval e X.env)]:=by rfl) (hbase:attributeBase (.Name x p) "append" X.env (eval (.Name x p) X.env)=eval (.Name x p) X.env:=by rfl)
  (hfew:((backTo cpos (starEach [e] X.env)).all (fun x=>!x.1) && (backToKw cpos (keywordEach [] X.env)).all (fun x=>x.1.isSome)
   && decide (([e]).length+([]:List Keyword).length+(if ([]:List Keyword).isEmpty then 0 else 1) < 30))=true:=by rfl)
  (hline:(apos.endLine == cpos.line)=true:=by rfl) (hplain:(backTo cpos (starEach ([]:List Expr) X.env)).any (·.1)=false:=by rfl) :
  PL X (.Call (.Attribute (.Name x p) "append" apos) [e] [] cpos) (wApp i te):=by
 refine PL.of (pe_bm PySem.F.plainAttrs_list PySem.F.slot_list_append PySem.F.type_list_append mt_append (dR hN hv hd hcd) (dh (am he).pe pa_nil hs1) (hbase:=hbase) (hfew:=hfew) (hline:=hline) (hs:=hs1) (hplain:=hplain)) fun σ H Pr ρ post E h=>?_
 obtain ⟨l,xs0,q0,h⟩:=dm h
 obtain ⟨hσ,vs0,hl0,_⟩:=E.ownAt q0
 refine ⟨.ref l,hσ,.inl ⟨rfl,vs0,SqL.of hl0⟩,Pr,ρ,fun r ρ1=>match r with
  | .d y=>ownV i ρ1 fun a xs=>xs.length < sizeLine∧post (.d .non) (ρ1.set i (.own a (xs++[y])))
  | _=>False,E,h,fun v H' r ρ' E' pp=>?_⟩
 cases r with
 | d y =>
  obtain ⟨l',xs,q,hlen,pp⟩:=dm pp
  obtain ⟨hσ',vs,hl,r⟩:=E'.tail.ownAt q
  rw [hσ] at hσ'
  cases hσ'
  obtain ⟨_,e1,p1⟩:=E'.head_d
  cases e1
  exact ⟨l,vs,v,rfl,rfl,hl,by rw [r.length]; exact hlen,_,_,(E'.tail.updOwn q (r.append (.cons p1 .nil))).cons_d .non,pp⟩
 | _=>exact pp.elim
def wClear (i:Nat):W L:=fun ρ post=>ownV i ρ fun a _=>post (.d .non) (ρ.set i (.own a []))
def wIxV (i:Nat) (tb:W L):W L:=fun ρ post=>ownV i ρ fun _ _=>tb ρ fun r ρ1=>eU r fun j=>ownV i ρ1 fun _ xs=>∃ y,atI xs j=some y∧post (.d y) ρ1
theorem pl_ixV (i:Nat) (hb:PL X b tb) (hs:PlainIx b) (hN:X.N[i]?=some x:=by rfl) (hv:Vis X.env.scope x:=by first | exact Or.inl rfl | exact Or.inr (Or.inl rfl) | exact Or.inr (Or.inr rfl)) (hd:(x == ("__debug__" : Str))=false:=by decide)
  (hcd:(x == ("__classdict__" : Str))=false:=by decide):PL X (.Subscript (.Name x p) b pos) (wIxV i tb):=by
 refine PL.of (pe_ix ix_list (dR hN hv hd hcd) hb.pe hs) fun σ H Pr ρ post E h=>?_
 obtain ⟨l,xs0,q0,h⟩:=dm h
 obtain ⟨hσ,vs0,hl0,_⟩:=E.ownAt q0
 refine ⟨.ref l,hσ,Pr,ρ,_,E,h,fun v H' r ρ' E' pp=>?_⟩
 obtain ⟨j,rfl,pp⟩:=cI pp
 obtain ⟨l',xs,q,y,hy,pp⟩:=dm pp
 obtain ⟨hσ',vs,hl,r⟩:=E'.tail.ownAt q
 rw [hσ] at hσ'
 cases hσ'
 obtain ⟨_,e1,p1⟩:=E'.head_d
 cases e1
 cases p1
 obtain ⟨w,hw,rw⟩:=atI_rep r hy
 exact ⟨l,vs,j,w,rfl,rfl,SqL.of hl,hw,_,ρ',E'.tail.cons_d rw,pp⟩
def wLenV (i:Nat):W L:=fun ρ post=>ownV i ρ fun _ xs=>post (.d (.int xs.length)) ρ
theorem pl_lenV (i:Nat) (hg:Gl X "len") (hm:X.mg "len"=none) (hN:X.N[i]?=some x:=by rfl) (hv:Vis X.env.scope x:=by first | exact Or.inl rfl | exact Or.inr (Or.inl rfl) | exact Or.inr (Or.inr rfl)) (hd:(x == ("__debug__" : Str))=false:=by decide)
  (hcd:(x == ("__classdict__" : Str))=false:=by decide) (h1:starEach [.Name x p] X.env=[(false,eval (.Name x p) X.env)]:=by rfl) (hpl:(backTo pos (starEach ([]:List Expr) X.env)).any (·.1)=false:=by rfl) :
  PL X (.Call (.Name "len" apos) [.Name x p] [] pos) (wLenV i):=by
 refine PL.of (pe_callB call_len_seq hg hm PySem.boot_len (dh (dR hN hv hd hcd) pa_nil h1) (he:=h1) (hpl:=hpl)) fun σ H Pr ρ post E h=>?_
 obtain ⟨l,xs0,q0,h⟩:=dm h
 obtain ⟨hσ,vs0,hl0,r⟩:=E.ownAt q0
 exact ⟨.ref l,hσ,l,vs0,rfl,.inl (SqL.of hl0),_,ρ,E.cons_d (.int _),by rw [r.length]; exact h⟩
def wSetV (i:Nat) (tb te:W L):W Fl:=fun ρ post=>te ρ fun r ρ1=>toD r fun y=>ownV i ρ1 fun _ _=>tb ρ1 fun r ρ2=>eU r fun j=>ownV i ρ2 fun a xs=>∃ k,ixN xs.length j=some k∧post .nx (ρ2.set i (.own a (xs.set k y)))
theorem pm_setV (i:Nat) {b:Expr} {ps:Pos} (hb:PL X b tb) (he:PL X e te) (hN:X.N[i]?=some x:=by rfl) (hv:Vis X.env.scope x:=by first | exact Or.inl rfl | exact Or.inr (Or.inl rfl) | exact Or.inr (Or.inr rfl)) (hd:(x == ("__debug__" : Str))=false:=by decide)
  (hcd:(x == ("__classdict__" : Str))=false:=by decide)
  (ha:∀ v,assign (.Subscript (.Name x p) b ps) X.env v=(do
   let ov ← holding [v] (eval (.Name x p) X.env)
   let iv ← holding [v,ov] (eval b X.env)
   standAt ps
   holding [v,ov,iv] (setItem ov iv v)
   release [v,ov,iv] []):=by intro _; rfl)
  (hs:swapsWithSole [.Subscript (.Name x p) b ps] e pos.line X.env=pure false:=by rfl) (hw:swappedStores [.Subscript (.Name x p) b ps] e X.env=pure none:=by rfl)
  (h1:(assignEach [.Subscript (.Name x p) b ps] X.env).map (·.2)=[assign (.Subscript (.Name x p) b ps) X.env]:=by rfl):PM X (.Assign [.Subscript (.Name x p) b ps] e pos) (wSetV i tb te):=by
 refine PM.of (ps_asg (am he).pe (pg_sub (dR hN hv hd hcd) hb.pe set_list ha) hs hw h1) fun σ H Pr ρ post hlen E h=>?_
 refine ⟨Pr,ρ,fun r ρ1=>match r with
  | .d y=>ownV i ρ1 fun _ _=>tb ρ1 fun r ρ2=>eU r fun j=>ownV i ρ2 fun a xs=>∃ k,ixN xs.length j=some k∧post .nx (ρ2.set i (.own a (xs.set k y)))
  | _=>False,E,h,fun v H' r ρ' E' pp=>?_⟩
 cases r with
 | d y =>
  obtain ⟨l,xs0,q0,pp⟩:=dm pp
  obtain ⟨hσ,vs0,hl0,_⟩:=E'.tail.ownAt q0
  refine ⟨.ref l,hσ,a0 H' ρ',ρ',_,E'.tail.wide,pp,fun w H2 r2 ρ2 E2 pp=>?_⟩
  obtain ⟨j,rfl,pp⟩:=cI pp
  obtain ⟨l',xs,q,k,hk,pp⟩:=dm pp
  obtain ⟨_,e1,p1⟩:=E2.head_d
  cases e1
  cases p1
  have E3:REnv X.K Pr H2 (some (.int j)::some v::σ) (.d (.int j)::.d y::ρ2):=REnv.step (τ:=[some v]) (lam:=[.d y]) (w:=[some (.int j)]) (μ:=[.d (.int j)]) E' rfl E2 rfl
  obtain ⟨_,e1,p1⟩:=E3.tail.head_d
  cases e1
  obtain ⟨hσ',vs,hl,r⟩:=E3.tail.tail.ownAt q
  rw [hσ] at hσ'
  cases hσ'
  refine ⟨l,vs,j,k,rfl,rfl,hl,by rw [r.length]; exact hk,_,E3.tail.tail.updOwn q (r.set p1 k),pp⟩
 | _=>exact pp.elim
def wPart:Option (W L)→Ev→(Option Int→Ev→Prop)→Prop
 | none=>fun ρ k=>k none ρ
 | some t=>fun ρ k=>t ρ fun r ρ1=>eU r fun i=>k (some i) ρ1
def cutD {α:Type} (xs:List α) (lo hi:Option Int):List α:=(xs.drop (HT.sIx xs.length 0 lo)).take (HT.sIx xs.length xs.length hi - HT.sIx xs.length 0 lo)
end
end L2
namespace L2
open PySem PySem.Spec PyProof.Rows
def aW:List Nat→Ev→Ev
 | [],ρ=>ρ
 | j::r,ρ=>(aW r ρ).set j .un
def bN (fi:List Nat) (ρ:Ev):Ev:=fi.map fun j=>(ρ[j]?).getD .un
def bp (fi:List Nat) (σ:St):St:=fi.map fun j=>(σ[j]?).getD none
def eZ:List Nat→Ev→Ev→Ev
 | j::r,c::cs,ρ=>eZ r cs (ρ.set j c)
 | _,_,ρ=>ρ
theorem dn:∀ (fi:List Nat) (ρ:Ev),(aW fi ρ).length=ρ.length
 | [],_=>rfl
 | j::r,ρ=>by unfold aW; rw [List.length_set,dn r ρ]
theorem unsAt_get:∀ (fi:List Nat) (ρ:Ev) (j:Nat),j∉fi→(aW fi ρ)[j]?=ρ[j]?
 | [],_,_,_=>rfl
 | i::r,ρ,j,h=>by
  unfold aW
  rw [List.getElem?_set_ne (fun e=>h (by simp [e])),unsAt_get r ρ j fun e=>h (List.mem_cons_of_mem _ e)]
theorem unsAt_un:∀ (fi:List Nat) (ρ:Ev) (j:Nat),j∈fi→j < ρ.length→(aW fi ρ)[j]?=some .un
 | i::r,ρ,j,h,hl=>by
  unfold aW
  by_cases e:i=j
  ·
   subst e
   rw [List.getElem?_set_self (by rw [dn]; exact hl)]
  ·
   rw [List.getElem?_set_ne e]
   exact unsAt_un r ρ j ((List.mem_cons.mp h).resolve_left fun z=>e z.symm) hl
section
variable {K:PySem.W.Frag} {Pr H H':Hp} {σ τ σ' w:St} {ρ μ lam ρ':Ev}
theorem REnv.takeAt (E:REnv K Pr H σ ρ) {i:Nat} {l:L} {s:Option V} (h:ρ[i]?=some l) (hs:σ[i]?=some s):REnv K Pr H (s::σ) (l::ρ.set i .un):=E.outL h hs
theorem REnv.takes (E:REnv K Pr H σ ρ):∀ (fi:List Nat),fi.Nodup→(∀ j∈fi,j < ρ.length)→REnv K Pr H (bp fi σ++σ) (bN fi ρ++aW fi ρ)
 | [],_,_=>E
 | j::r,nd,hl=>by
  have ih:=E.takes r (List.nodup_cons.mp nd).2 fun i hi=>hl i (List.mem_cons_of_mem _ hi)
  have hj:j < ρ.length:=hl j List.mem_cons_self
  have hjs:j < σ.length:=by rw [E.len]; exact hj
  have e1:(bN r ρ++aW r ρ)[r.length+j]?=some ρ[j]:=by
   rw [List.getElem?_append_right (by simp [bN])]
   simp only [bN,List.length_map,Nat.add_sub_cancel_left]
   rw [unsAt_get r ρ j (List.nodup_cons.mp nd).1]
   exact List.getElem?_eq_getElem hj
  have e2:(bp r σ++σ)[r.length+j]?=some σ[j]:=by
   rw [List.getElem?_append_right (by simp [bp])]
   simp only [bp,List.length_map,Nat.add_sub_cancel_left]
   exact List.getElem?_eq_getElem hjs
  have z:=ih.takeAt e1 e2
  rw [List.set_append_right _ _ (by simp [bN])] at z
  simp only [bN,List.length_map,Nat.add_sub_cancel_left] at z
  have c1:bp (j::r) σ=σ[j]::bp r σ:=by simp [bp,hjs]
  have c2:bN (j::r) ρ=ρ[j]::bN r ρ:=by simp [bN,hj]
  rw [c1,c2]
  exact z
theorem REnv.backs:∀ (fi:List Nat) {cs ρ:Ev},fi.Nodup→cs.length=fi.length→(∀ j∈fi,ρ[j]?=some .un)→(∀ j∈fi,j < σ.length)→REnv K Pr H (bp fi σ++σ) (cs++ρ)→REnv K Pr H σ (eZ fi cs ρ)
 | [],[],ρ,_,_,_,_,E=>E
 | j::r,c::cs,ρ,nd,hl,hu,hs,E=>by
  have hjs:j < σ.length:=hs j List.mem_cons_self
  have hj:=hu j List.mem_cons_self
  have c1:bp (j::r) σ=σ[j]::bp r σ:=by simp [bp,hjs]
  rw [c1] at E
  have hlr:cs.length=r.length:=by simpa using hl
  have z:=REnv.back (σ:=bp r σ++σ) (ρ:=cs++ρ) (l:=c) E (i:=r.length+j) (by
   rw [List.getElem?_append_right (by omega),hlr,Nat.add_sub_cancel_left]; exact hj) (by
   rw [List.getElem?_append_right (by simp [bp])]
   simp only [bp,List.length_map,Nat.add_sub_cancel_left]
   exact List.getElem?_eq_getElem hjs)
  rw [List.set_append_right _ _ (by omega),hlr,Nat.add_sub_cancel_left] at z
  exact REnv.backs r (List.nodup_cons.mp nd).2 hlr (fun i hi=>by
   rw [List.getElem?_set_ne (fun e=>(List.nodup_cons.mp nd).1 (by rw [e]; exact hi))]; exact hu i (List.mem_cons_of_mem _ hi)) (fun i hi=>hs i (List.mem_cons_of_mem _ hi)) z
 | [],_::_,_,_,hl,_,_,_=>by simp at hl
 | _::_,[],_,_,hl,_,_,_=>by simp at hl
end
def clOf (cells:List (Str×Addr)):List (Str×NameKind)→List (Str×Addr)→List (Str×Addr)
 | [],acc=>acc
 | (n,k)::r,acc=>clOf cells r (if k == .free then (match cells.lookup n with | some c=>(n,c)::acc | none=>acc) else acc)
theorem closure_eq {env:Env}:∀ (names:List (Str×NameKind)) (acc:List (Str×Addr)),(∀ x∈names,x.2=.free→∃ c,env.cells.lookup x.1=some c) →
  (forIn names acc fun (x:Str×NameKind) (cs:List (Str×Addr))=>(if x.2 == .free then do let c ← cellOf env x.1; pure (ForInStep.yield ((x.1,c)::cs)) else pure (ForInStep.yield cs):Sem (ForInStep (List (Str×Addr)))))=pure (clOf env.cells names acc)
 | [],acc,_=>rfl
 | (n,k)::r,acc,h=>by
  rw [List.forIn_cons]
  by_cases hk:(k == NameKind.free)=true
  ·
   obtain ⟨c,hc⟩:=h (n,k) List.mem_cons_self (by simpa using hk)
   have e:cellOf env n=pure c:=by unfold cellOf; rw [show env.cells.lookup n=some c from hc]
   simp only [hk,if_true,e,pure_bind,clOf,hc]
   exact closure_eq r _ fun x hx=>h x (List.mem_cons_of_mem _ hx)
  ·
   simp only [hk,clOf,if_false,pure_bind]
   exact closure_eq r _ fun x hx=>h x (List.mem_cons_of_mem _ hx)
theorem closureFor_cl {scope:Scope} {env:Env} (h:∀ x∈scope.names,x.2=.free→∃ c,env.cells.lookup x.1=some c):closureFor scope env=pure (clOf env.cells scope.names []):=by
 have:=closure_eq (env:=env) scope.names [] h
 unfold closureFor
 simp only [bind_pure_comp] at this ⊢
 rw [this]
 rfl
theorem clOf_sub {cells:List (Str×Addr)}:∀ (names:List (Str×NameKind)) (acc:List (Str×Addr)),(∀ x c,acc.lookup x=some c→cells.lookup x=some c)→∀ x c,(clOf cells names acc).lookup x=some c→cells.lookup x=some c
 | [],acc,h,x,c,e=>h x c e
 | (n,k)::r,acc,h,x,c,e=>by
  unfold clOf at e
  refine clOf_sub r _ (fun y d ey=>?_) x c e
  split at ey
  ·
   split at ey
   ·
    rename_i q
    rw [List.lookup_cons] at ey
    split at ey
    ·
     rename_i e2
     have:y=n:=by simpa using e2
     cases ey
     rw [this]; exact q
    ·
     exact h y d ey
   ·
    exact h y d ey
  ·
   exact h y d ey
theorem lookup_some_cons {n:Str} {c:Addr} {acc:List (Str×Addr)} {x:Str} (h:∃ d,acc.lookup x=some d):∃ d,((n,c)::acc).lookup x=some d:=by
 rw [List.lookup_cons]
 split
 ·
  exact ⟨_,rfl⟩
 ·
  exact h
theorem clOf_has {cells:List (Str×Addr)}:∀ (names:List (Str×NameKind)) (acc:List (Str×Addr)) (x:Str),((∃ d,acc.lookup x=some d)∨((x,NameKind.free)∈names∧∃ c,cells.lookup x=some c))→∃ d,(clOf cells names acc).lookup x=some d
 | [],acc,x,h=>by
  rcases h with h | ⟨h,_⟩
  ·
   exact h
  ·
   simp at h
 | (n,k)::r,acc,x,h=>by
  unfold clOf
  refine clOf_has r _ x ?_
  rcases h with h | ⟨hm,c,hc⟩
  ·
   left
   split
   ·
    split
    ·
     exact lookup_some_cons h
    ·
     exact h
   ·
    exact h
  ·
   rcases List.mem_cons.mp hm with e | hm
   ·
    cases e
    left
    simp only [hc,beq_self_eq_true,if_true]
    exact ⟨c,by simp [List.lookup_cons]⟩
   ·
    exact .inr ⟨hm,c,hc⟩
def cxComp (X:Cx) (scope:Scope) (cl:List (Str×Addr)) (Nb:List Str) (s₀:Shared) (H₀:Hp) (fp:List Addr):Cx :=
 { X with N:=Nb,s₀:=s₀,H₀:=H₀,env:=compEnvC scope cl s₀.heap.objs.size X.env,outer:=X.stack,stack:=X.stack,ex:=fp,fn:=fun _=>false,pn:=[],xe:=fun _ _=>False }
end L2
namespace L2
open PySem PySem.Spec PyProof.Rows
theorem paired_iff {α β:Type} {F:α→β→Prop}:∀ {a:List α} {b:List β},Paired F a b↔a.length=b.length∧∀ p∈a.zip b,F p.1 p.2
 | [],[]=>⟨fun _=>⟨rfl,fun _ h=>by simp at h⟩,fun _=>.nil⟩
 | [],_::_=>⟨(fun h=>nomatch h),fun h=>by simp at h⟩
 | _::_,[]=>⟨(fun h=>nomatch h),fun h=>by simp at h⟩
 | x::a,y::b=>by
  constructor
  ·
   intro h
   cases h with
   | cons r t =>
    obtain ⟨h1,h2⟩:=paired_iff.mp t
    exact ⟨by simp [h1],fun p hp=>by
     rw [List.zip_cons_cons] at hp
     rcases List.mem_cons.mp hp with rfl | hp
     ·
      exact r
     ·
      exact h2 p hp⟩
  ·
   rintro ⟨hl,h⟩
   exact .cons (h (x,y) (by simp)) (paired_iff.mpr ⟨by simpa using hl,fun p hp=>h p (by rw [List.zip_cons_cons]; exact List.mem_cons_of_mem _ hp)⟩)
theorem owns_zip:∀ {σ:St} {ρ:Ev},σ.length=ρ.length→(σ.zip ρ).map (·.2)=ρ
 | [],[],_=>rfl
 | _::σ,l::ρ,h=>by
  have ih:=owns_zip (σ:=σ) (ρ:=ρ) (by simpa using h)
  rw [List.zip_cons_cons,List.map_cons,ih]
 | [],_::_,h=>by simp at h
 | _::_,[],h=>by simp at h
theorem REnv.rearr {K:PySem.W.Frag} {Pr H:Hp} {σ σ2:St} {ρ ρ2:Ev} (E:REnv K Pr H σ ρ) (hl:σ2.length=ρ2.length) (extra:List (Option V×L)) (h:(σ.zip ρ).Perm (σ2.zip ρ2++extra)):REnv K Pr H σ2 ρ2:=by
 have pm:(owns ρ).Perm (owns ρ2++owns (extra.map (·.2))):=by
  have q:=owns_perm (h.map (·.2))
  rw [List.map_append,owns_zip E.len,owns_zip hl,aw] at q
  exact q
 refine ⟨E.sub,(List.nodup_append.mp (pm.nodup_iff.mp E.nd)).1,fun a ha=>E.off a (pm.mem_iff.mpr (List.mem_append_left _ ha)),paired_iff.mpr ⟨hl,fun p hp=>?_⟩⟩
 exact (paired_iff.mp E.sl).2 p (h.mem_iff.mpr (List.mem_append_left _ hp))
theorem capSt_app {fi:List Nat} {σ τ:St} (h:∀ j∈fi,j < σ.length):bp fi (σ++τ)=bp fi σ:=by
 unfold bp
 refine List.map_congr_left fun j hj=>?_
 rw [List.getElem?_append_left (h j hj)]
theorem capsOf_app {fi:List Nat} {σ τ:Ev} (h:∀ j∈fi,j < σ.length):bN fi (σ++τ)=bN fi σ:=by
 unfold bN
 refine List.map_congr_left fun j hj=>?_
 rw [List.getElem?_append_left (h j hj)]
theorem unsAt_app {τ:Ev}:∀ {fi:List Nat} {ρ:Ev},(∀ j∈fi,j < ρ.length)→aW fi (ρ++τ)=aW fi ρ++τ
 | [],_,_=>rfl
 | j::r,ρ,h=>by
  unfold aW
  rw [unsAt_app fun i hi=>h i (List.mem_cons_of_mem _ hi),List.set_append_left _ _ (by rw [dn]; exact h j List.mem_cons_self)]
theorem putAll_app {τ:Ev}:∀ {fi:List Nat} {cs ρ:Ev},(∀ j∈fi,j < ρ.length)→eZ fi cs (ρ++τ)=eZ fi cs ρ++τ
 | [],[],_,_=>rfl
 | [],_::_,_,_=>rfl
 | _::_,[],_,_=>rfl
 | j::r,c::cs,ρ,h=>by
  unfold eZ
  rw [List.set_append_left _ _ (h j List.mem_cons_self)]
  exact putAll_app fun i hi=>by rw [List.length_set]; exact h i (List.mem_cons_of_mem _ hi)
theorem dz {env:Env}:∀ {names:List (Str×NameKind)} {x:Str},names.lookup x=some .free →
  (names.map fun (n,k)=>if (k == NameKind.free && env.scope.kind == .function && env.kindOf n == some .cell) then (n,NameKind.cell) else (n,k)).lookup x=some .cell ∨
  (names.map fun (n,k)=>if (k == NameKind.free && env.scope.kind == .function && env.kindOf n == some .cell) then (n,NameKind.cell) else (n,k)).lookup x=some .free
 | [],_,h=>by simp at h
 | (n,k)::r,x,h=>by
  have ih:=@dz env r x
  rw [List.map_cons]
  cases hx:x == n with
  | true =>
   simp only [List.lookup_cons,hx] at h
   cases h
   dsimp only
   by_cases hc:(NameKind.free == NameKind.free && env.scope.kind == .function && env.kindOf n == some .cell)=true
   ·
    left; rw [if_pos hc]; simp [List.lookup_cons,hx]
   ·
    right; rw [if_neg hc]; simp [List.lookup_cons,hx]
  | false =>
   simp only [List.lookup_cons,hx] at h
   dsimp only
   by_cases hc:(k == NameKind.free && env.scope.kind == .function && env.kindOf n == some .cell)=true
   ·
    rw [if_pos hc]; simp only [List.lookup_cons,hx]; exact ih h
   ·
    rw [if_neg hc]; simp only [List.lookup_cons,hx]; exact ih h
theorem fB {env:Env}:∀ {names:List (Str×NameKind)} {x:Str} {k:NameKind},(∀ y∈names,y.2≠.cell)→(k=.cell∨k=.free) →
  (names.map fun (n,k)=>if (k == NameKind.free && env.scope.kind == .function && env.kindOf n == some .cell) then (n,NameKind.cell) else (n,k)).lookup x=some k→(x,NameKind.free)∈names
 | [],_,_,_,_,h=>by simp at h
 | (n,k0)::r,x,k,hc,hk,h=>by
  rw [List.map_cons] at h
  dsimp only at h
  by_cases q:(k0 == NameKind.free && env.scope.kind == .function && env.kindOf n == some .cell)=true
  ·
   rw [if_pos q,List.lookup_cons] at h
   have e0:k0=.free:=by
    have:=(Bool.and_eq_true_iff.mp (Bool.and_eq_true_iff.mp q).1).1
    simpa using this
   split at h
   ·
    rename_i e
    have:x=n:=by simpa using e
    subst this e0
    exact List.mem_cons_self
   ·
    exact List.mem_cons_of_mem _ (fB (fun y hy=>hc y (List.mem_cons_of_mem _ hy)) hk h)
  ·
   rw [if_neg q,List.lookup_cons] at h
   split at h
   ·
    rename_i e
    have:x=n:=by simpa using e
    subst this
    have e1:k0=k:=by simpa using h
    subst e1
    rcases hk with z | z
    ·
     exact absurd z (hc (x,k0) List.mem_cons_self)
    ·
     subst z; exact List.mem_cons_self
   ·
    exact List.mem_cons_of_mem _ (fB (fun y hy=>hc y (List.mem_cons_of_mem _ hy)) hk h)
end L2
namespace L2
open PySem PySem.Spec PyProof.Rows
section
variable {prog:Program} {w:World} {A:Around} {R:Result→Shared→Prop}
theorem comp_loop {elt target iter:Expr} {ifs:List Expr} {scope:Scope} {pos:Pos} {it acc:Value} {env:Env} (I:Nat→Shared→Prop)
  (turn:∀ n s,I n s→wpAny (model prog w) A (pyNext it) (fun r s₁=>match r with
   | none=>R (.ok .next) s₁
   | some v=>wpAny (model prog w) A (letOwnedTupleGo target it v) (fun _ s₀=>wpAny (model prog w) A (assign target env v) (fun _ s₂ =>
     wpAny (model prog w) A (forIn ifs true fun c r=>if r=true then do let ok ← isTrue c env (eval c env); pure (ForInStep.yield ok) else pure (ForInStep.yield r)) (fun ok s₃ =>
      if ok=true then wpAny (model prog w) A (eval elt env) (fun x s₄ =>
       wpAny (model prog w) A (call (.builtin "list.append") [acc,x]) (fun _ s₅=>∃ m,m < n∧I m s₅) (fun _ _=>False) s₄) (fun _ _=>False) s₃
      else ∃ m,m < n∧I m s₃) (fun _ _=>False) s₂) (fun _ _=>False) s₀) (fun _ _=>False) s₁) (fun _ _=>False) s)
  (n:Nat) {s:Shared} (h:I n s) :
  codeAny (model prog w) A (.compLoop (.ListComp elt [⟨target,iter,ifs,0⟩] scope pos) 0 it acc env) R s:=by
 refine codeAny_loop rfl I (fun n s hI=>?_) n h
 show wpAny _ A ((compTurn (.ListComp elt [⟨target,iter,ifs,0⟩] scope pos) 0 it acc env).onRaise (fun x=>do noteFrame x env; theTreesLotGoes x)) _ _ s
 refine wpAny_noted ?_
 rw [compTurn_list]
 have fe:∀ {α:Type} {t:Sem α} {Q:α→Shared→Prop} {E:Value→Shared→Prop} {s:Shared},wpAny (model prog w) A t Q (fun _ _=>False) s→wpAny (model prog w) A t Q E s:=fun h=>wpAny_mono h (fun _ _ q=>q) fun _ _ z=>z.elim
 refine wpAny_bind (wpAny_standAt (wpAny_bind (wpAny_mono (turn n s hI) (fun r s₁ h₁=>?_) fun _ _ h'=>h'.elim)))
 cases r with
 | none=>exact wpAny_pure h₁
 | some v =>
  refine wpAny_bind (wpAny_mono h₁ (fun _ s₀ h₀=>?_) fun _ _ z=>z.elim)
  refine wpAny_bind (wpAny_mono h₀ (fun _ s₂ h₂=>wpAny_bind (wpAny_mono h₂ (fun ok s₃ h₃=>?_) fun _ _ h'=>h'.elim)) fun _ _ h'=>h'.elim)
  cases ok with
  | false=>exact wpAny_pure ⟨rfl,h₃⟩
  | true =>
   exact wpAny_bind (wpAny_bind (wpAny_mono h₃ (fun x s₄ h₄=>wpAny_bind (wpAny_mono h₄ (fun _ s₅ h₅=>wpAny_pure (wpAny_pure ⟨rfl,h₅⟩)) fun _ _ h'=>h'.elim)) fun _ _ h'=>h'.elim))
end
def PTc (X:Cx) (tg:Expr) (n:Nat) (g:Tg):Prop:=∃ gg:TG,PG X tg gg∧∀ v σ H Pr ρ x k,σ.length=X.N.length→REnv X.K Pr H σ ρ→Rep X.K H v x→g x ρ k→gg v σ H fun σ' H'=>H'=H∧σ'.drop n=σ.drop n∧∃ ρ',REnv X.K Pr H σ' ρ'∧k ρ'
theorem ba {X:Cx} {i n:Nat} {x:Str} {pos:Pos} (hn:i < n) (hN:X.N.Nodup) (hi:X.N[i]?=some x) (hx:Loc X.env.scope x) (hf:X.fn x=true∨X.env.scope.names.lookup x=some .local:=by first | exact .inl rfl | exact .inr rfl | assumption):PTc X (.Name x pos) n (aK i) :=
 ⟨_,pg_name hN hi hx hf,fun v σ H Pr ρ x k hl E r h=>⟨rfl,by rw [List.drop_set_of_lt hn],_,(E.cons_d r).store (by rw [hl]; exact (List.getElem?_eq_some_iff.mp hi).1),h⟩⟩
def PIf (X:Cx) (ifs:List Expr) (t:W Bool):Prop :=
 ∀ (pins:List (Addr×Obj)) (s:Shared) (σ:St) (H Pr:Hp) (ρ:Ev) (post:Bool→Ev→Prop),Inv X pins σ H s→REnv X.K Pr H σ ρ→t ρ post →
  wpAny (model X.prog X.w) X.A (forIn ifs true fun c r=>if r=true then do let ok ← isTrue c X.env (eval c X.env); pure (ForInStep.yield ok) else pure (ForInStep.yield r)) (EB X pins σ Pr post) X.xe s
def b6:W Bool:=fun ρ post=>post true ρ
theorem aZ {X:Cx}:PIf X [] b6:=fun pins s σ H Pr ρ post I E h=>wpAny_tests_nil ⟨H,ρ,I,E,h⟩
theorem pif_one {X:Cx} {c:Expr} {t:W Bool} (h:PB X c t):PIf X [c] t:=fun pins s σ H Pr ρ post I E ht=>wpAny_tests_one (h pins s σ H Pr ρ post I E ht)
def cV (g:Tg) (ti:W Bool) (te:W L):List D→Ev→List D→(List D→Ev→Prop)→Prop
 | [],ρ,acc,k=>k acc ρ
 | x::xs,ρ,acc,k=>g x ρ fun ρ1=>ti ρ1 fun b ρ2=>if b=true then te ρ2 fun r ρ3=>toD r fun y=>cV g ti te xs ρ3 (acc++[y]) k else cV g ti te xs ρ2 acc k
def cb (n:Nat) (fi:List Nat) (src:W (List D)) (g:Tg) (ti:W Bool) (te:W L):W L:=fun ρ post=>src ρ fun xs ρ1=>xs.length≤sizeLine ∧
 cV g ti te xs (List.replicate n .un++bN fi ρ1) [] fun ys ρb=>∀ a,post (.own a ys) (eZ fi (ρb.drop n) (aW fi ρ1))
section
variable {X:Cx}
theorem comp_core {elt tg iter:Expr} {ifs:List Expr} {scope sc:Scope} {pos:Pos} {N Nt Nf:List Str} {fi:List Nat} {src:W (List D)} {g:Tg} {ti:W Bool} {te:W L}
  (hsc:X.env.scope=sc) (hXN:X.N=N) (hc:X.calm=true) (hi:PIL X tg iter src)
  (hkind:scope.kind=.function) (hnames:∀ x∈scope.names,x.2=.local→scope.names.lookup x.1=some .local) (hcell:∀ y∈scope.names,y.2≠.cell)
  (hfr:∀ x∈scope.names,x.2=.free→sc.names.lookup x.1=some .cell∨sc.names.lookup x.1=some .free)
  (hnd:fi.Nodup) (hNf:Nf.map some=fi.map (fun j=>N[j]?)) (hNk:∀ x∈Nf,scope.names.lookup x=some .free) (hfl:∀ j∈fi,j < N.length)
  (hg:∀ cl s₀ H₀ fp,PTc (cxComp X scope cl (Nt++Nf) s₀ H₀ fp) tg Nt.length g) (hti:∀ cl s₀ H₀ fp,PIf (cxComp X scope cl (Nt++Nf) s₀ H₀ fp) ifs ti) (hte:∀ cl s₀ H₀ fp,PL (cxComp X scope cl (Nt++Nf) s₀ H₀ fp) elt te)
  {pins:List (Addr×Obj)} {s:Shared} {σ:St} {H Pr:Hp} {ρ:Ev} {post:L→Ev→Prop} {use:Option (Value→Sem Unit)} {Q:Value→Shared→Prop} (I:Inv X pins σ H s) (E:REnv X.K Pr H σ ρ) (h:cb Nt.length fi src g ti te ρ post)
  (hRR:∀ D C s7 H6 acc ρ'' m,Inv X pins σ H6 s7→s7.heap.Ns C m→H6 C=none→C≠X.env.locals→X.s₀.heap.objs.size≤C→(∀ x c,X.env.cells.lookup x=some c→c≠C)→(∀ p∈X.pn++pins,p.1≠C)→REnv X.K Pr H6 (some (.ref D)::σ) (.own D acc::ρ'')→post (.own D acc) ρ'' →
   compPost (model X.prog X.w) X.A X.xe use Q (.ref D) C (.ok .next) s7)
  (hs:∀ x,foldedSetIterable iter X.env x=pure x):wpAny (model X.prog X.w) X.A (comprehension (.ListComp elt [⟨tg,iter,ifs,0⟩] scope pos) scope X.env (firstIterPos [⟨tg,iter,ifs,0⟩] pos) (newList []) false (eval iter X.env) use) Q X.xe s:=by
 have hcells:∀ x∈scope.names,x.2=.free→∃ c,X.env.cells.lookup x.1=some c:=fun x hx hk=>I.ok.has x.1 (by
  show X.env.scope.names.lookup x.1=_∨X.env.scope.names.lookup x.1=_
  rw [hsc]; exact hfr x hx hk)
 have hsub:=clOf_sub (cells:=X.env.cells) scope.names [] (fun x c e=>by simp at e)
 refine wpAny_comprehension_free (use:=use) rfl hs (closureFor_cl hcells) hkind hnames (thn (hi pins s σ H Pr ρ _ I E h) fun v s1 h1=>thn h1 fun itv s2 h2=>?_)
 obtain ⟨it,fp,tn,J,H2,xs,ρ2,e,I2,T,st2,f2,E2,G,hlen,w0⟩:=h2
 subst e
 refine wpAny_newObj_type (T:="list") ?_
 generalize hD:s2.heap.objs.size=D
 have fD:H2 D=none:=by rw [← hD]; exact I2.fresh
 have I3:Inv X pins σ (upd H2 D (.lst [])) { s2 with heap:=s2.heap.push { cls:=.type "list",dict:=none,data:=.seq ([]:List Value).toArray } }:=by
  have:=Inv.lnew (ys:=[]) (its:=[]) (t':=s2.toks) I2 .nil (Nat.zero_le _)
  rw [hD] at this
  exact this
 have E3:=E2.cons_own (p:=D) (vs:=[]) (xs:=[]) fD .nil
 have sz3:(s2.heap.push { cls:=.type "list",dict:=none,data:=.seq ([]:List Value).toArray }).objs.size=D+1:=by rw [Heap.size_push,hD]
 generalize hs3:({ s2 with heap:=s2.heap.push { cls:=.type "list",dict:=none,data:=.seq ([]:List Value).toArray } }:Shared)=s3 at I3
 have hs3h:s3.heap=s2.heap.push { cls:=.type "list",dict:=none,data:=.seq ([]:List Value).toArray }:=by rw [← hs3]
 have fpD:∀ b∈fp,b≠D:=fun b hb=>by
  obtain ⟨o,e,_⟩:=T.obj 0 _ st2 b hb
  rw [← hD]; exact Nat.ne_of_lt (Heap.lt_size e)
 have old3:∀ b o,s2.heap.get? b=some o→s3.heap.get? b=some o:=fun b o e=>by rw [hs3h]; exact Heap.get?_push_of_some _ e
 refine wpAny_newFunctionEnv (around:=some X.env) hcell (by intro y hy; simp at hy) (fun h4 hns4 hsb4=>?_) hkind
 have hns4':h4.Ns s3.heap.objs.size (fun _=>none):=by
  have:(fun x=>(([]:List (Str×Value)).reverse.lookup x))=fun _=>(none:Option Value):=by funext x; rfl
  rw [this] at hns4
  exact hns4
 have old4:∀ b o,s3.heap.get? b=some o→h4.get? b=some o:=fun b o e=>by
  rw [hsb4.2 b (Nat.ne_of_lt (Heap.lt_size e))]; exact Heap.get?_push_of_some _ e
 have hσl:σ.length=N.length:=by rw [← hXN]; exact I.len
 have hρ2:σ.length=ρ2.length:=E2.len
 have hjσ:∀ j∈fi,j < σ.length:=fun j hj=>by rw [hσl]; exact hfl j hj
 have hjρ:∀ j∈fi,j < ρ2.length:=fun j hj=>by rw [← hρ2]; exact hjσ j hj
 have hfpl:∀ b∈fp,b < s3.heap.objs.size:=fun b hb=>by
  obtain ⟨o,e,_⟩:=T.obj 0 _ st2 b hb
  exact Heap.lt_size (old3 b o e)
 have hlNf:Nf.length=fi.length:=by have:=congrArg List.length hNf; simpa using this
 have Bok:(cxComp X scope (clOf X.env.cells scope.names []) (Nt++Nf) s3 (upd H2 D (.lst [])) fp).Ok:=by
  refine ⟨I3.ok.mod,hkind,I.ok.glob,I.ok.blt,Nat.le_refl _,fun x y c e1 e2=>I.ok.inj x y c (hsub x c e1) (hsub y c e2),fun x hx=>?_,fun x c hf _=>(Bool.false_ne_true hf).elim,I.ok.hd,I.ok.frames,.inl rfl,fun b hb=>⟨Nat.ne_of_lt (hfpl b hb),fun x c e=>(f2 b hb).2.2.2.2.1 x c (hsub x c e)⟩,I3.bs,Nat.le_trans I.ok.bsz I3.sz,fun b o e hb=>?_,fun b hb hm=>?_,I3.stack,I3.stkFree⟩
  ·
   have hm:(x,NameKind.free)∈scope.names:=by
    rcases hx with hx | hx
    ·
     exact fB (env:=X.env) hcell (.inl rfl) hx
    ·
     exact fB (env:=X.env) hcell (.inr rfl) hx
   exact clOf_has scope.names [] x (.inr ⟨hm,hcells _ hm rfl⟩)
  ·
   rcases (f2 b hb).2.2.2.1 with z | z
   ·
    exact I.ok.noex b o e z
   ·
    exact absurd (Nat.lt_of_lt_of_le (Heap.lt_size (I.ok.bs b o e).1) z) (Nat.lt_irrefl _)
  ·
   rcases List.mem_cons.mp (I3.stkSub b hm) with z | z
   ·
    exact (f2 b hb).2.1 z
   ·
    exact (f2 b hb).2.2.1 z
 have I4:Inv (cxComp X scope (clOf X.env.cells scope.names []) (Nt++Nf) s3 (upd H2 D (.lst [])) fp) [] (List.replicate Nt.length none++bp fi σ) (upd H2 D (.lst [])) { s3 with heap:=h4,toks:=s3.toks+([]:List (Str×Value)).length }:=by
  refine ⟨Bok,rfl,I3.bare,Un.kept old4,⟨_,hns4',fun i x v e1 e2 e3=>?_⟩,fun x c e=>?_,I3.fresh,fun x c e=>I3.freeC x c (hsub x c e),fun p hp=>absurd (show p∈([]:List (Addr×Obj)) from hp) (by simp),I3.hok.kept old4,?_⟩
  ·
   have e1:(Nt++Nf)[i]?=some x:=e1
   have hi':Nt.length≤i:=by
    by_cases q:i < Nt.length
    ·
     rw [List.getElem?_append_left (by simpa using q),List.getElem?_replicate] at e2
     split at e2 <;> cases e2
    ·
     omega
   rw [List.getElem?_append_right hi'] at e1
   rw [List.getElem?_append_right (by simpa using hi')] at e2
   simp only [List.length_replicate] at e2
   generalize i - Nt.length=k at e1 e2
   have hk:k < fi.length:=by
    have:=(List.getElem?_eq_some_iff.mp e1).1
    omega
   have e4:(Nf.map some)[k]?=(fi.map fun j=>N[j]?)[k]?:=by rw [hNf]
   rw [List.getElem?_map,List.getElem?_map,e1,List.getElem?_eq_getElem hk] at e4
   have e5:N[fi[k]]?=some x:=by simpa using e4.symm
   have e6:σ[fi[k]]?=some (some v):=by
    unfold bp at e2
    rw [List.getElem?_map,List.getElem?_eq_getElem hk] at e2
    have hjl:=hjσ fi[k] (List.getElem_mem hk)
    rw [List.getElem?_eq_getElem hjl]
    simpa [List.getElem?_eq_getElem hjl] using e2
   have hxm:x∈Nf:=List.mem_of_getElem? e1
   have hfree:=hNk x hxm
   have hmem:(x,NameKind.free)∈scope.names:=PySem.mem_of_lookup hfree
   have hkx:=hfr _ hmem rfl
   obtain ⟨m,_,hl⟩:=I3.loc
   obtain ⟨u,ru,lk⟩:=hl fi[k] x v (by rw [hXN]; exact e5) e6 (by rw [hsc]; exact .inr hkx)
   refine ⟨u,ru,.inr ⟨dz (env:=X.env) hfree,?_⟩⟩
   rcases lk with ⟨z,_⟩ | ⟨_,c,hc1,hc2⟩
   ·
    have z:X.env.scope.names.lookup x=some .local:=z
    rw [hsc] at z
    rcases hkx with q | q
    ·
     rw [z] at q; cases q
    ·
     rw [z] at q; cases q
   ·
    obtain ⟨d,hd⟩:=clOf_has (cells:=X.env.cells) scope.names [] x (.inr ⟨hmem,c,hc1⟩)
    have:d=c:=by have:=hsub x d hd; rw [hc1] at this; exact (Option.some.inj this).symm
    subst this
    obtain ⟨o,ho,hdd⟩:=hc2
    exact ⟨d,hd,o,old4 _ o ho,hdd⟩
  ·
   obtain ⟨v,o,ho,hd⟩:=I3.cell x c (hsub x c e)
   exact ⟨v,o,old4 c o ho,hd⟩
  ·
   show (List.replicate Nt.length none++bp fi σ).length=(Nt++Nf).length
   simp [bp,hlNf]
 have E4:REnv X.K Pr (upd H2 D (.lst [])) (some (.ref D)::(σ++(List.replicate Nt.length none++bp fi σ))) (.own D []::(aW fi ρ2++(List.replicate Nt.length .un++bN fi ρ2))):=by
  have a1:REnv X.K Pr (upd H2 D (.lst [])) (σ++[some (.ref D)]) (ρ2++[.own D []]):=E3.rearr (by simp [hρ2]) [] (by
   rw [List.append_nil,List.zip_append hρ2]
   exact (List.perm_append_comm (l₁:=[(some (V.ref D),L.own D [])]) (l₂:=σ.zip ρ2)))
  have a2:=a1.takes fi hnd fun j hj=>by have:=hjρ j hj; simp; omega
  rw [capSt_app hjσ,capsOf_app hjρ,unsAt_app hjρ] at a2
  have a3:=a2.uns Nt.length
  have hcl:(bp fi σ).length=(bN fi ρ2).length:=by simp [bp,bN]
  have hul:σ.length=(aW fi ρ2).length:=by rw [dn]; exact hρ2
  refine a3.rearr (by simp [hul,hcl]) [] ?_
  have l1:(bp fi σ++(σ++[some (V.ref D)])++List.replicate Nt.length none).zip (bN fi ρ2++(aW fi ρ2++[L.own D []])++List.replicate Nt.length L.un)=((bp fi σ).zip (bN fi ρ2)++(σ.zip (aW fi ρ2)++[(some (V.ref D),L.own D [])]))++(List.replicate Nt.length none).zip (List.replicate Nt.length L.un):=by
   rw [List.zip_append (by simp only [List.length_append,hcl,hul]; rfl),List.zip_append hcl,List.zip_append hul]
   rfl
  have l2:(some (V.ref D)::(σ++(List.replicate Nt.length none++bp fi σ))).zip (L.own D []::(aW fi ρ2++(List.replicate Nt.length L.un++bN fi ρ2)))=(some (V.ref D),L.own D [])::(σ.zip (aW fi ρ2)++((List.replicate Nt.length none).zip (List.replicate Nt.length L.un)++(bp fi σ).zip (bN fi ρ2))):=by
   rw [List.zip_cons_cons,List.zip_append hul,List.zip_append (by simp)]
  rw [List.append_nil,l1,l2]
  generalize (bp fi σ).zip (bN fi ρ2)=z1
  generalize σ.zip (aW fi ρ2)=z2
  generalize (List.replicate Nt.length none).zip (List.replicate Nt.length L.un)=z3
  show (z1++(z2++[(some (V.ref D),L.own D [])])++z3).Perm ((some (V.ref D),L.own D [])::(z2++(z3++z1)))
  have p1:(z1++(z2++[(some (V.ref D),L.own D [])])++z3).Perm ((z2++[(some (V.ref D),L.own D [])])++z3++z1):=by
   rw [List.append_assoc]
   exact List.perm_append_comm
  refine p1.trans ?_
  rw [List.append_assoc,List.append_assoc]
  exact List.perm_middle
 clear E3
 let B:Cx:=cxComp X scope (clOf X.env.cells scope.names []) (Nt++Nf) s3 (upd H2 D (.lst [])) fp
 have hul:σ.length=(aW fi ρ2).length:=by rw [dn]; exact hρ2
 have stat:∀ {H':Hp},(∀ b∈fp,H' b=none)→∀ b∈fp,FpOk B [] H' b:=fun hn b hb=>by
  refine ⟨hn b hb,Nat.ne_of_lt (hfpl b hb),fun hm=>?_,.inl hb,fun x c e=>(f2 b hb).2.2.2.2.1 x c (hsub x c e),fun p hp=>absurd (show p∈([]:List (Addr×Obj)) from hp) (by simp)⟩
  rcases List.mem_cons.mp (I3.stkSub b hm) with z | z
  ·
   exact (f2 b hb).2.1 z
  ·
   exact (f2 b hb).2.2.1 z
 have loop:∀ s5:Shared,s5={ s3 with heap:=h4,toks:=s3.toks+([]:List (Str×Value)).length }→codeAny (model X.prog X.w) X.A (.compLoop (.ListComp elt [⟨tg,iter,ifs,0⟩] scope pos) 0 (.ref it) (.ref D) B.env)
   (compPost (model X.prog X.w) X.A X.xe use Q (.ref D) s3.heap.objs.size) s5:=by
  rintro s5 rfl
  refine comp_loop (fun n s'=>∃ i σ' H' ρ' acc,n+i=xs.length∧Inv B [] σ' H' s'∧tn i s'.heap∧(∀ b∈fp,H' b=none)∧σ'.drop Nt.length=bp fi σ∧REnv X.K Pr H' (some (.ref D)::(σ++σ')) (.own D acc::(aW fi ρ2++ρ'))∧acc.length≤i ∧
   cV g ti te (xs.drop i) ρ' acc fun ys ρb=>∀ a,post (.own a ys) (eZ fi (ρb.drop Nt.length) (aW fi ρ2))) ?_ xs.length
   ⟨0,_,_,_,[],by omega,I4,T.keep 0 _ _ st2 fun b hb o e=>old4 b o (old3 b o e),fun b hb=>by rw [aI (fpD b hb)]; exact (f2 b hb).1,by simp,E4,Nat.le_refl _,by simpa using w0⟩
  rintro n s6 ⟨i,σ6,H6,ρ6,acc,hn,I6,st6,fr6,dr6,E6,hal,w6⟩
  have pr:Pres H2 H6:=fun b o p e=>by
   have ne:b≠D:=fun z=>by rw [z,fD] at e; cases e
   have e':B.H₀ b=some o:=by show upd H2 D (.lst []) b=some o; rw [aI ne]; exact e
   cases o with
   | tup ys=>exact I6.base.tups b ys e'
   | frz ob u=>exact I6.base.frzs b ob u e'
   | _=>exact p.elim
  obtain ⟨go,stop⟩:=G H6 pr
  have hτ:(some (V.ref D)::σ).length=(L.own D acc::aW fi ρ2).length:=by simp [hul]
  by_cases hlt:i < xs.length
  ·
   obtain ⟨hgo,hy⟩:=go i xs[i] (List.getElem?_eq_getElem hlt)
   rw [List.drop_eq_getElem_cons hlt] at w6
   refine thn (T.item B rfl rfl rfl hc i [] s6 σ6 H6 (fun _ _=>False) I6 (stat fr6) st6 hgo) fun r s7 ⟨u,hr,h7⟩=>?_
   subst hr
   refine thn h7 fun _ s8 ⟨x,H8,I8,r8,y8,st8,fr8⟩=>?_
   obtain ⟨gr,rx⟩:=hy x H8 y8
   have I8':=I8.pinned (stat fr8) (T.obj _ _ st8)
   have E8:=E6.grown gr
   have E8a:REnv X.K (a0 H8 ρ6) H8 σ6 ρ6:=(REnv.drop (τ:=some (V.ref D)::σ) (lam:=L.own D acc::aW fi ρ2) E8 hτ).wide
   obtain ⟨gg,hgg,hgs⟩:=hg (clOf X.env.cells scope.names []) s3 (upd H2 D (.lst [])) fp
   refine thn (hgg _ s8 σ6 H8 x u _ I8' r8 (hgs x σ6 H8 _ ρ6 xs[i] _ I8.len E8a rx w6)) fun _ s9 ⟨σ9,H9,I9,e9,dr9,ρ9,E9,q9⟩=>?_
   subst e9
   have F9:REnv X.K Pr H9 (some (V.ref D)::(σ++σ9)) (L.own D acc::(aW fi ρ2++ρ9)):=REnv.step (τ:=some (V.ref D)::σ) (lam:=L.own D acc::aW fi ρ2) (w:=[]) (μ:=[]) E8 hτ E9 rfl
   have F9a:REnv X.K (a0 H9 ρ9) H9 σ9 ρ9:=(REnv.drop (τ:=some (V.ref D)::σ) (lam:=L.own D acc::aW fi ρ2) F9 hτ).wide
   refine thn (hti _ _ _ _ _ s9 σ9 H9 _ ρ9 _ I9 F9a q9) fun ok sA ⟨HA,ρA,IA,EA,qA⟩=>?_
   have FA:REnv X.K Pr HA (some (V.ref D)::(σ++σ9)) (L.own D acc::(aW fi ρ2++ρA)):=REnv.step (τ:=some (V.ref D)::σ) (lam:=L.own D acc::aW fi ρ2) (w:=[]) (μ:=[]) F9 hτ EA rfl
   have again:∀ {sZ:Shared} {HZ:Hp} {ρZ:Ev} {acc':List L2.D},Inv B ([]++pinsAt fp s8.heap) σ9 HZ sZ→REnv X.K Pr HZ (some (.ref D)::(σ++σ9)) (.own D acc'::(aW fi ρ2++ρZ))→acc'.length≤i+1 →
     (cV g ti te (xs.drop (i+1)) ρZ acc' fun ys ρb=>∀ a,post (.own a ys) (eZ fi (ρb.drop Nt.length) (aW fi ρ2)))→∃ m,m < n∧∃ i σ' H' ρ' acc,m+i=xs.length∧Inv B [] σ' H' sZ∧tn i sZ.heap∧(∀ b∈fp,H' b=none)∧σ'.drop Nt.length=bp fi σ ∧
     REnv X.K Pr H' (some (.ref D)::(σ++σ')) (.own D acc::(aW fi ρ2++ρ'))∧acc.length≤i∧cV g ti te (xs.drop i) ρ' acc fun ys ρb=>∀ a,post (.own a ys) (eZ fi (ρb.drop Nt.length) (aW fi ρ2)):=fun {sZ HZ ρZ acc'} IZ EZ hz qZ=>by
    refine ⟨n - 1,by omega,i+1,σ9,HZ,ρZ,acc',by omega,IZ.unpinned,T.keep _ _ _ st8 fun b hb o e=>(IZ.pin (b,o) (List.mem_append_right _ (List.mem_append_right _ (mem_pinsAt hb e)))).1,fun b hb=>?_,dr9.trans dr6,EZ,hz,qZ⟩
    obtain ⟨o,e,d⟩:=T.obj _ _ st8 b hb
    exact (IZ.pin (b,o) (List.mem_append_right _ (List.mem_append_right _ (mem_pinsAt hb e)))).2.1
   cases ok with
   | false =>
    rw [if_neg Bool.false_ne_true] at qA ⊢
    exact again IA FA (by omega) qA
   | true =>
    rw [if_pos rfl] at qA ⊢
    have FAa:REnv X.K (a0 HA ρA) HA σ9 ρA:=(REnv.drop (τ:=some (V.ref D)::σ) (lam:=L.own D acc::aW fi ρ2) FA hτ).wide
    refine thn (hte _ _ _ _ _ sA σ9 HA _ ρA _ IA FAa qA) fun ux sB qB=>?_
    obtain ⟨vy,HB,y,ρB,IB,rB,EB,qB⟩:=EL.frz (X:=B) (post:=fun y ρ3=>cV g ti te (xs.drop (i+1)) ρ3 (acc++[y]) fun ys ρb=>∀ a,post (.own a ys) (eZ fi (ρb.drop Nt.length) (aW fi ρ2))) qB
    have FB:REnv X.K Pr HB (some vy::(some (V.ref D)::(σ++σ9))) (.d y::(L.own D acc::(aW fi ρ2++ρB))):=REnv.step (τ:=some (V.ref D)::σ) (lam:=L.own D acc::aW fi ρ2) (w:=[some vy]) (μ:=[.d y]) FA hτ EB rfl
    obtain ⟨_,e1,p1⟩:=FB.head_d
    cases e1
    have slB:=FB.tail.sl
    cases slB with
    | cons q0 _ =>
     obtain ⟨_,vs,hDB,rvs⟩:=q0
     refine thn (mt_append (X:=B) _ sB σ9 HB (.ref D) [vy] (.ref D) [ux] (fun z H'=>H'=upd HB D (.lst (vs++[vy]))) IB rfl (.cons rB .nil) ⟨D,vs,vy,rfl,rfl,hDB,by rw [rvs.length]; omega,rfl⟩) fun _ sC ⟨z,HC,IC,_,eC⟩=>?_
     subst eC
     exact again IC (FB.tail.write (rvs.append (.cons p1 .nil))) (by simp; omega) qB
  ·
   have e:i=xs.length:=by omega
   subst e
   refine thn (T.done B rfl rfl rfl hc xs.length [] s6 σ6 H6 (fun _ _=>False) I6 (stat fr6) st6 stop) fun r s7 ⟨hr,I7⟩=>?_
   subst hr
   rw [List.drop_length] at w6
   obtain ⟨m,hm,_⟩:=id I7.loc
   have I8:Inv X pins σ H6 s7:=I3.call' (ch:=fp) I7.os I7.base I7.hok I7.bare fun b hb=>⟨(f2 b hb).2.2.2.1,(f2 b hb).2.1,(f2 b hb).2.2.2.2.1,(f2 b hb).2.2.2.2.2⟩
   have f4:=I3.fpOk (H':=H6) (b:=s3.heap.objs.size) (Nat.le_refl _) I7.free
   ·
    have hlen6:σ6.length=ρ6.length:=(REnv.drop (τ:=some (V.ref D)::σ) (lam:=L.own D acc::aW fi ρ2) E6 hτ).len
    have a1:REnv X.K Pr H6 (bp fi σ++(σ++[some (V.ref D)])) (ρ6.drop Nt.length++(aW fi ρ2++[L.own D acc])):=by
     have hcd:(bp fi σ).length=(ρ6.drop Nt.length).length:=by rw [← dr6,List.length_drop,List.length_drop,hlen6]
     refine E6.rearr (by simp [hcd,hul,hlen6]) ((σ6.take Nt.length).zip (ρ6.take Nt.length)) ?_
     have l0:σ6.zip ρ6=(σ6.take Nt.length).zip (ρ6.take Nt.length)++(bp fi σ).zip (ρ6.drop Nt.length):=by
      rw [← dr6,← List.zip_append (by simp [hlen6]),List.take_append_drop,List.take_append_drop]
     have l1:(some (V.ref D)::(σ++σ6)).zip (L.own D acc::(aW fi ρ2++ρ6))=(some (V.ref D),L.own D acc)::(σ.zip (aW fi ρ2)++σ6.zip ρ6):=by rw [List.zip_cons_cons,List.zip_append hul]
     have l2:(bp fi σ++(σ++[some (V.ref D)])).zip (ρ6.drop Nt.length++(aW fi ρ2++[L.own D acc]))=(bp fi σ).zip (ρ6.drop Nt.length)++(σ.zip (aW fi ρ2)++[(some (V.ref D),L.own D acc)]):=by
      rw [List.zip_append hcd,List.zip_append hul]; rfl
     rw [l1,l2,l0]
     generalize (bp fi σ).zip (ρ6.drop Nt.length)=z1
     generalize σ.zip (aW fi ρ2)=z2
     generalize (σ6.take Nt.length).zip (ρ6.take Nt.length)=z3
     have p1:((some (V.ref D),L.own D acc)::(z2++(z3++z1))).Perm ((z2++[(some (V.ref D),L.own D acc)])++(z3++z1)):=by
      rw [List.append_assoc]
      exact List.perm_middle.symm
     refine p1.trans ?_
     have p2:((z2++[(some (V.ref D),L.own D acc)])++(z3++z1)).Perm ((z3++z1)++(z2++[(some (V.ref D),L.own D acc)])):=List.perm_append_comm
     refine p2.trans ?_
     rw [List.append_assoc]
     exact List.perm_append_comm
    have a2:=REnv.backs (σ:=σ++[some (V.ref D)]) (cs:=ρ6.drop Nt.length) (ρ:=aW fi ρ2++[L.own D acc]) fi hnd (by rw [List.length_drop,← hlen6,← List.length_drop,dr6]; simp [bp]) (fun j hj=>by
     rw [List.getElem?_append_left (by rw [dn]; exact hjρ j hj)]; exact unsAt_un fi ρ2 j hj (hjρ j hj)) (fun j hj=>by have:=hjσ j hj; simp; omega) (by rw [capSt_app hjσ]; exact a1)
    rw [putAll_app fun j hj=>by rw [dn]; exact hjρ j hj] at a2
    have hpl:σ.length=(eZ fi (ρ6.drop Nt.length) (aW fi ρ2)).length:=by have:=a2.len; simpa using this
    refine hRR D s3.heap.objs.size s7 H6 acc (eZ fi (ρ6.drop Nt.length) (aW fi ρ2)) m I8 hm f4.1 f4.2.1 I3.sz f4.2.2.2.2.1 f4.2.2.2.2.2 (a2.rearr (by simp [hpl]) [] ?_) (w6 D)
    rw [List.append_nil,List.zip_append hpl,List.zip_cons_cons]
    exact List.perm_append_comm (l₂:=[(some (V.ref D),L.own D acc)])
 exact codeAny_compStart_list (loop _ rfl) (T.self _ 0 _ _ _ (T.keep 0 _ _ st2 fun b hb o e=>old4 b o (old3 b o e)) (loop _ rfl))
theorem bc {elt tg iter:Expr} {ifs:List Expr} {scope sc:Scope} {pos:Pos} {N Nt Nf:List Str} {fi:List Nat} {src:W (List D)} {g:Tg} {ti:W Bool} {te:W L}
  (hsc:X.env.scope=sc) (hXN:X.N=N) (hc:X.calm=true) (hi:PIL X tg iter src)
  (hkind:scope.kind=.function) (hnames:∀ x∈scope.names,x.2=.local→scope.names.lookup x.1=some .local) (hcell:∀ y∈scope.names,y.2≠.cell)
  (hfr:∀ x∈scope.names,x.2=.free→sc.names.lookup x.1=some .cell∨sc.names.lookup x.1=some .free)
  (hnd:fi.Nodup) (hNf:Nf.map some=fi.map (fun j=>N[j]?)) (hNk:∀ x∈Nf,scope.names.lookup x=some .free) (hfl:∀ j∈fi,j < N.length)
  (hg:∀ cl s₀ H₀ fp,PTc (cxComp X scope cl (Nt++Nf) s₀ H₀ fp) tg Nt.length g) (hti:∀ cl s₀ H₀ fp,PIf (cxComp X scope cl (Nt++Nf) s₀ H₀ fp) ifs ti) (hte:∀ cl s₀ H₀ fp,PL (cxComp X scope cl (Nt++Nf) s₀ H₀ fp) elt te)
  (hs:∀ x,foldedSetIterable iter X.env x=pure x:=by intro _; rfl):PL X (.ListComp elt [⟨tg,iter,ifs,0⟩] scope pos) (cb Nt.length fi src g ti te):=by
 intro pins s σ H Pr ρ post I E h
 rw [eval_ListComp]
 refine comp_core (use:=none) hsc hXN hc hi hkind hnames hcell hfr hnd hNf hNk hfl hg hti hte I E h (fun D C s7 H6 acc ρ'' m I7 hm h1 h2 h3 h4 h5 E7 p=>?_) hs
 exact ⟨m,hm,fun h' hsb=>⟨.ref D,H6,_,ρ'',I7.turned (t':=s7.toks) (fun b o hb e=>(hsb.2 b hb).trans e) h1 (Ne.symm (Ne.symm h2)) (.inr h3) h4 h5,rfl,E7,p⟩⟩
theorem pm_setC {elt tg iter:Expr} {ifs:List Expr} {scope sc:Scope} {pos spos py:Pos} {y:Str} {j:Nat} {N Nt Nf:List Str} {fi:List Nat} {src:W (List D)} {g:Tg} {ti:W Bool} {te:W L}
  (hN:X.N.Nodup) (hj:X.N[j]?=some y) (hy:Loc X.env.scope y)
  (hsc:X.env.scope=sc) (hXN:X.N=N) (hc:X.calm=true) (hi:PIL X tg iter src)
  (hkind:scope.kind=.function) (hnames:∀ x∈scope.names,x.2=.local→scope.names.lookup x.1=some .local) (hcell:∀ y∈scope.names,y.2≠.cell)
  (hfr:∀ x∈scope.names,x.2=.free→sc.names.lookup x.1=some .cell∨sc.names.lookup x.1=some .free)
  (hnd:fi.Nodup) (hNf:Nf.map some=fi.map (fun j=>N[j]?)) (hNk:∀ x∈Nf,scope.names.lookup x=some .free) (hfl:∀ j∈fi,j < N.length)
  (hg:∀ cl s₀ H₀ fp,PTc (cxComp X scope cl (Nt++Nf) s₀ H₀ fp) tg Nt.length g) (hti:∀ cl s₀ H₀ fp,PIf (cxComp X scope cl (Nt++Nf) s₀ H₀ fp) ifs ti) (hte:∀ cl s₀ H₀ fp,PL (cxComp X scope cl (Nt++Nf) s₀ H₀ fp) elt te)
  (hsw:swapsWith (.ListComp elt [⟨tg,iter,ifs,0⟩] scope pos) (some (.Name y py)) spos.line X.env=pure true:=by rfl) (hf:X.fn y=true∨X.env.scope.names.lookup y=some .local:=by first | exact .inl rfl | exact .inr rfl | assumption)
  (hs:∀ x,foldedSetIterable iter X.env x=pure x:=by intro _; rfl):PM X (.Assign [.Name y py] (.ListComp elt [⟨tg,iter,ifs,0⟩] scope pos) spos) (wSet j (cb Nt.length fi src g ti te)):=by
 intro pins s σ H Pr ρ post I E h
 rw [exec_Assign_Name_used _ _ _ _ hsw]
 refine wpAny_bind (wpAny_standAt (wpAny_bind ?_))
 show wpAny _ X.A (do let _ ← comprehension (.ListComp elt [⟨tg,iter,ifs,0⟩] scope pos) scope X.env (firstIterPos [⟨tg,iter,ifs,0⟩] pos) (newList []) false (eval iter X.env) (some (assign (.Name y py) X.env))) _ _ s
 refine wpAny_bind (thn (comp_core (use:=some (assign (.Name y py) X.env)) (Q:=fun _ s'=>SM X pins Pr post .next s') (post:=fun r ρ1=>post .nx (ρ1.set j r)) hsc hXN hc hi hkind hnames hcell hfr hnd hNf hNk hfl hg hti hte I E h (fun D C s7 H6 acc ρ'' m I7 hm h1 h2 h3 h4 h5 E7 p=>?_) hs) fun _ s' hq=>wpAny_pure (wpAny_pure hq))
 show wpAny _ X.A (assign (.Name y py) X.env (.ref D)) _ _ _
 refine wpAny_assign_Name (store_ok2 (v:=.ref D) I7 hN hj hy rfl (fun s8 I8 ⟨a,sb,ha⟩=>?_) hf)
 have hCa:C≠a:=by
  rcases ha with z | z
  ·
   rw [z]; exact h2
  ·
   exact fun q=>h4 y a z q.symm
 refine ⟨m,hm.sameBut sb hCa,fun h' hsb=>⟨_,H6,_,I8.turned (t':=s8.toks) (fun b o hb e=>(hsb.2 b hb).trans e) h1 h2 (.inr h3) h4 h5,E7.store (by rw [I7.len]; exact (List.getElem?_eq_some_iff.mp hj).1),p⟩⟩
end
end L2
namespace L2
open PySem PySem.Spec PyProof.Rows
section
variable {X:Cx} {e a b c:Expr} {es rest:List Expr} {pos p p2 apos cpos:Pos} {ta tb tc te:W L} {x y:Str}
def wPar (i j:Nat) (ta tb:W L):W Fl:=fun ρ post=>ta ρ fun r ρ1=>toD r fun v=>tb ρ1 fun r2 ρ2=>toD r2 fun w=>post .nx ((ρ2.set i (.d v)).set j (.d w))
theorem pm_par {i j:Nat} {px py pt:Pos} {kt k2 pt2} (hc:X.calm=true) (hN:X.N.Nodup) (hi:X.N[i]?=some x) (hj:X.N[j]?=some y) (hij:i≠j)
  (hx:X.env.scope.names.lookup x=some .local) (hy:X.env.scope.names.lookup y=some .local) (ha:PL X a ta) (hb:PL X b tb)
  (hw:swappedStores [.Tuple [.Name x px,.Name y py] kt pt] (.Tuple [a,b] k2 pt2) X.env=pure (some [x,y]))
  (hs:swapsWithSole [.Tuple [.Name x px,.Name y py] kt pt] (.Tuple [a,b] k2 pt2) pos.line X.env=pure false:=by rfl)
  (h1:starEach [a,b] X.env=(false,eval a X.env)::starEach [b] X.env:=by rfl) (h2:starEach [b] X.env=[(false,eval b X.env)]:=by rfl) :
  PM X (.Assign [.Tuple [.Name x px,.Name y py] kt pt] (.Tuple [a,b] k2 pt2) pos) (wPar i j ta tb):=by
 refine PM.of (ps_par hc hN hi hj hij hx hy (dh (am ha).pe (dh (am hb).pe pa_nil h2) h1) hw hs) fun σ H Pr ρ post hlen E h=>?_
 refine ⟨Pr,ρ,fun r ρ1=>match r with
  | .d v=>tb ρ1 fun r2 ρ2=>toD r2 fun w=>post .nx ((ρ2.set i (.d v)).set j (.d w))
  | _=>False,E,h,fun v H1 r ρ1 E1 pp=>?_⟩
 cases r with
 | d dv =>
  refine ⟨a0 H1 ρ1,ρ1,fun r ρ2=>match r with
   | .d w=>post .nx ((ρ2.set i (.d dv)).set j (.d w))
   | _=>False,E1.tail.wide,pp,fun w H2 r2 ρ2 E2 pp=>?_⟩
  cases r2 with
  | d dw =>
   have E3:REnv X.K Pr H2 (some w::some v::σ) (.d dw::.d dv::ρ2):=REnv.step (τ:=[some v]) (lam:=[.d dv]) (w:=[some w]) (μ:=[.d dw]) E1 rfl E2 rfl
   have il:i < σ.length:=by rw [hlen]; exact (List.getElem?_eq_some_iff.mp hi).1
   have jl:j < σ.length:=by rw [hlen]; exact (List.getElem?_eq_some_iff.mp hj).1
   obtain ⟨_,e1,r1⟩:=E3.head_d
   cases e1
   have E4:REnv X.K Pr H2 (σ.set i (some v)) (ρ2.set i (.d dv)):=E3.tail.store il
   exact ⟨v,w,rfl,_,(E4.cons_d r1).store (by simpa using jl),pp⟩
  | _=>exact pp.elim
 | _=>exact pp.elim
def wAsgT (is:List Nat) (te:W L):W Fl:=fun ρ post=>te ρ fun r ρ1=>toD r fun v=>dj is v ρ1 fun ρ2=>post .nx ρ2
theorem pm_asgT {tg:Expr} {is:List Nat} (hg:PT1 X tg (dj is)) (he:PL X e te) (hs:swapsWithSole [tg] e pos.line X.env=pure false:=by rfl) (hw:swappedStores [tg] e X.env=pure none:=by rfl)
  (h1:(assignEach [tg] X.env).map (·.2)=[assign tg X.env]:=by rfl):PM X (.Assign [tg] e pos) (wAsgT is te):=by
 intro pins s σ H Pr ρ post I E h
 obtain ⟨gg,hg,hgg⟩:=hg
 refine wpAny_Assign_stores (thn (he pins s σ H Pr ρ _ I E h) fun v s1 q=>?_) hs hw
 obtain ⟨w,H1,d,ρ1,I1,r1,E1,q1⟩:=EL.frz (post:=fun d ρ1=>dj is d ρ1 fun ρ2=>post .nx ρ2) q
 rw [h1]
 obtain ⟨_,e1,p1⟩:=E1.head_d
 cases e1
 exact thn (hg pins s1 σ H1 w v _ I1 r1 (hgg w σ H1 Pr ρ1 d _ I1.len E1.tail p1 q1)) fun _ s2 ⟨σ',H',I',e',_,ρ',E',q⟩=>by
  subst e'
  exact ⟨σ',_,ρ',I',E',q⟩
def flatD:D→Bool
 | .non=>true | .bl _=>true | .int _=>true | .str _=>true
 | _=>false
def eqF:D→D→Bool
 | .non,.non=>true
 | .bl a,.bl b=>a == b
 | .bl a,.int b=>(if a then 1 else 0) == b
 | .int a,.bl b=>a == (if b then 1 else 0)
 | .int a,.int b=>a == b
 | .str a,.str b=>a == b
 | _,_=>false
theorem flat_rep {K:PySem.W.Frag} {H:Hp} {v:V} {d:D} (r:Rep K H v d) (h:flatD d=true):flatV v=true:=by
 cases r <;> first | rfl | (exact absurd h (by simp [flatD]))
theorem eqF_eq {K:PySem.W.Frag} {H:Hp} {v w:V} {d f:D} (r:Rep K H v d) (q:Rep K H w f) (h:flatD d=true) (h':flatD f=true):eqV v w=eqF d f:=by
 cases r <;> cases q <;> first | rfl | (exact absurd h (by simp [flatD])) | (exact absurd h' (by simp [flatD]))
def inF (x:D) (ys:List D):Bool:=ys.any fun y=>eqF y x
theorem inF_eq {K:PySem.W.Frag} {H:Hp} {v:V} {x:D} (r:Rep K H v x) (h:flatD x=true):∀ {vs:List V} {ys:List D},Reps K H vs ys→ys.all flatD=true→inV v vs=inF x ys∧vs.all flatV=true
 | _,_,.nil,_=>⟨rfl,rfl⟩
 | _,_,.cons r0 t,ha=>by
  rw [List.all_cons,Bool.and_eq_true] at ha
  obtain ⟨i1,i2⟩:=inF_eq r h t ha.2
  unfold inV inF at i1 ⊢
  rw [List.any_cons,List.any_cons,List.all_cons,i1,eqF_eq r0 r ha.1 h,flat_rep r0 ha.1,i2]
  exact ⟨rfl,rfl⟩
def opInF (neg:Bool):Op2:=fun x y k=>flatD x=true∧fA y fun ys=>ys.all flatD=true∧k (.d (.bl (if neg then !inF x ys else inF x ys)))
theorem od_in:OpD X (compareOp .In) (opInF false):=OpD.of op_in_seq fun σ H Pr ρ x y dx dy post E px py ⟨hx,h⟩=>by
 cases py with
 | lst hz rs =>
  obtain ⟨ha,h⟩:=h
  obtain ⟨i1,i2⟩:=inF_eq px hx rs ha
  exact ⟨_,_,rfl,.inl hz.l,flat_rep px hx,i2,_,E.cons_d (.bl _),by rw [i1]; exact h⟩
 | tup hz rs =>
  obtain ⟨ha,h⟩:=h
  obtain ⟨i1,i2⟩:=inF_eq px hx rs ha
  exact ⟨_,_,rfl,.inr hz,flat_rep px hx,i2,_,E.cons_d (.bl _),by rw [i1]; exact h⟩
 | _=>exact h.elim
def PO' (X:Cx) (lo:Option Expr) (t:Option (W L)):Prop:=match lo,t with
 | none,none=>True
 | some e,some t=>PL X e t
 | _,_=>False
theorem cutV_reps {K:PySem.W.Frag} {H:Hp} {vs:List V} {xs:List D} (r:Reps K H vs xs) (l u:Option Int):Reps K H (cutV vs l u) (cutD xs l u):=by
 unfold cutV cutD
 rw [r.length]
 exact (r.drop _).take _
def tPO (K:PySem.W.Frag) (t:Option (W L)):TO:=fun σ H Q=>∃ Pr ρ post,REnv K Pr H σ ρ∧wPart t ρ post∧∀ i H' ρ',REnv K Pr H' σ ρ'→post i ρ'→Q i H'
theorem po_of {lo:Option Expr} {t:Option (W L)} (h:PO' X lo t):PO X lo (tPO X.K t):=by
 cases lo with
 | none =>
  cases t with
  | none =>
   intro pins s σ H Q I ⟨Pr,ρ,post,E,hw,q⟩
   exact po_none pins s σ H Q I (q none H ρ E hw)
  | some t=>exact h.elim
 | some e =>
  cases t with
  | none=>exact h.elim
  | some t =>
   intro pins s σ H Q I ⟨Pr,ρ,post,E,hw,q⟩
   refine po_some (PL.pe (show PL X e t from h)) pins s σ H Q I ⟨Pr,ρ,_,E,hw,fun v H' r ρ' E' pp=>?_⟩
   obtain ⟨i,rfl,pp⟩:=cI pp
   obtain ⟨_,e1,p1⟩:=E'.head_d
   cases e1
   cases p1
   exact ⟨i,rfl,q (some i) H' ρ' E'.tail pp⟩
def wRev (ta:W L):W L:=fun ρ post=>ta ρ fun r ρ1=>toD r fun d=>match d with
 | .lst xs=>∀ a,post (.own a xs.reverse) ρ1
 | _=>False
end
end L2
namespace L2
open PySem PySem.Spec PyProof.Rows
section
variable {X:Cx} {e a b c:Expr} {es rest:List Expr} {pos p p2 p3 p4 apos cpos:Pos} {ta tb tc te:W L} {x y:Str} {k4:Nat}
end
def selW {α:Type} (o:Option L) (t u:W α) (ρ:Ev) (post:α→Ev→Prop):Prop:=match o with
 | some (.own _ _)=>t ρ post
 | _=>u ρ post
def dU {α:Type} (i:Nat) (t u:W α):W α:=fun ρ post=>selW ρ[i]? t u ρ post
theorem selW_own {α:Type} (a:Addr) (xs:List D) (t u:W α) (ρ:Ev) (post:α→Ev→Prop):selW (some (.own a xs)) t u ρ post=t ρ post:=(rfl)
theorem selW_d {α:Type} (x:D) (t u:W α) (ρ:Ev) (post:α→Ev→Prop):selW (some (.d x)) t u ρ post=u ρ post:=(rfl)
theorem selW_bx {α:Type} (a:Option Addr) (ls:List L) (t u:W α) (ρ:Ev) (post:α→Ev→Prop):selW (some (.bx a ls)) t u ρ post=u ρ post:=(rfl)
theorem pl_own {X:Cx} {e:Expr} {i:Nat} {t u:W L} (h:PL X e t) (h':PL X e u):PL X e (dU i t u):=fun pins s σ H Pr ρ post I E q=>by
 unfold dU selW at q
 split at q
 ·
  exact h pins s σ H Pr ρ post I E q
 ·
  exact h' pins s σ H Pr ρ post I E q
theorem kit_int (K:PySem.W.Frag) (d:D):PySem.W.kitOne K (tyD d) (.type "int")=some (isTy "int" d):=by cases d <;> rfl
theorem kit_bool (K:PySem.W.Frag) (d:D):PySem.W.kitOne K (tyD d) (.type "bool")=some (isTy "bool" d):=by cases d <;> rfl
theorem kit_str (K:PySem.W.Frag) (d:D):PySem.W.kitOne K (tyD d) (.type "str")=some (isTy "str" d):=by cases d <;> rfl
theorem kit_list (K:PySem.W.Frag) (d:D):PySem.W.kitOne K (tyD d) (.type "list")=some (isTy "list" d):=by cases d <;> rfl
theorem kit_tuple (K:PySem.W.Frag) (d:D):PySem.W.kitOne K (tyD d) (.type "tuple")=some (isTy "tuple" d):=by cases d <;> rfl
end L2
namespace L2
open PySem PySem.Spec PyProof.Rows
def GlobT (K:PySem.W.Frag) (mg:Str→Option Value) (x:Str) (d:D):Prop:=∃ v u,mg x=some u∧RelV v u∧∀ H,Rep K H v d
theorem pl_G {X:Cx} {x:Str} {d:D} {pos:Pos} (g:GlobT X.K X.mg x d) (hg:Gl X x) (hdb:(x == ("__debug__" : Str))=false:=by decide):PL X (.Name x pos) (wC d):=by
 obtain ⟨v,u,h1,h2,h3⟩:=g
 exact pl_glob hg h1 h2 h3 hdb
def GlobO (o:Obj) (d:D):Prop:=∃ its n vs ds,d=.tup ds∧o.cls=.type "tuple"∧o.data=.seq its n∧its.size≤sizeLine∧Vals vs its.toList∧∀ K H,Reps K H vs ds
theorem globT_mk {K:PySem.W.Frag} {mg:Str→Option Value} {x:Str} {d:D} {l:Addr} {o:Obj} (h1:mg x=some (.ref l)) (h2:K.lookup l=some o) (h3:GlobO o d):GlobT K mg x d:=by
 obtain ⟨its,n,vs,ds,rfl,hc,hd,hz,hv,hr⟩:=h3
 exact ⟨.ref l,_,h1,rfl,fun H=>.tup (.inr ⟨o,its,n,h2,hc,hd,hz,hv⟩) (hr K H)⟩
theorem globS_mk {K:PySem.W.Frag} {mg:Str→Option Value} {x:Str} {s:Str} {t:Tok} (h1:mg x=some (.str s t)):GlobT K mg x (.str s):=⟨.str s,_,h1,⟨t,rfl⟩,fun H=>.str s⟩
theorem globI_mk {K:PySem.W.Frag} {mg:Str→Option Value} {x:Str} {s:Int} {t:Tok} (h1:mg x=some (.int s t)):GlobT K mg x (.int s):=⟨.int s,_,h1,⟨t,rfl⟩,fun H=>.int s⟩
theorem reps_ints {K:PySem.W.Frag} {H:Hp}:∀ ns:List Int,Reps K H (ns.map V.int) (ns.map D.int)
 | []=>.nil
 | n::ns=>.cons (.int n) (reps_ints ns)
theorem law_start {K:PySem.W.Frag} {H:Hp} {a:Addr} {ns:List Int} {fs:FS} {n:Nat} (hl:ns.length≤n) (hO:Only H) (hS:SqL K H a (ns.map V.int)) (h:fs [.d (.lst (ns.map .int))] (fun r _=>r=.d (.bl true))):spF K 1 fs [.ref a] H (fun v _=>v=.bl true) fun _ _ _=>False:=by
 have hz:SqZ K H a (ns.map V.int):=by
  rcases hS with (h | ⟨o,h⟩) | h
  ·
   rcases hO a with z | ⟨o,xs,z⟩
   ·
    rw [z] at h; cases h
   ·
    rw [z] at h; cases h
  ·
   exact .inl ⟨o,h⟩
  ·
   exact .inr h
 refine ⟨rfl,fun _=>none,[.d (.lst (ns.map .int))],_,⟨(fun b o e=>nomatch e),(show ([]:List Addr).Nodup from List.nodup_nil),(fun a h=>absurd (show a∈([]:List Addr) from h) (by simp)),.cons ⟨.ref a,rfl,.lst hz (reps_ints ns)⟩ .nil⟩,h,fun v H' r ls' E p=>?_⟩
 subst p
 obtain ⟨_,e,r⟩:=E.head_d
 cases e
 cases r
 rfl
section
variable {X:Cx}
def opIsN:Op2:=fun x y k=>match y with
 | .non=>k (.d (.bl (match x with | .non=>true | _=>false)))
 | _=>False
def opNotN:Op2:=fun x y k=>match y with
 | .non=>k (.d (.bl (match x with | .non=>false | _=>true)))
 | _=>False
theorem od_isN':OpD X (compareOp .Is) opIsN:=od_isN.imp fun x y k h=>by
 unfold opIsN at h
 split at h
 ·
  exact ⟨rfl,h⟩
 ·
  exact h.elim
theorem od_notN':OpD X (compareOp .IsNot) opNotN:=od_notN.imp fun x y k h=>by
 unfold opNotN at h
 split at h
 ·
  exact ⟨rfl,h⟩
 ·
  exact h.elim
end
end L2
namespace L2
open PySem
theorem gcd_fmod (a b:Int):Int.gcd b (a.fmod b)=Int.gcd a b:=by
 rw [Int.fmod_def,Int.gcd_sub_mul_left_right,Int.gcd_comm]
theorem natAbs_fmod_lt (a:Int) {b:Int} (h:b≠0):(a.fmod b).natAbs < b.natAbs:=by
 rw [Int.fmod_eq_emod]
 have h1:=Int.emod_nonneg a h
 have h2:a % b < (b.natAbs:Int):=Int.emod_lt a h
 split
 ·
  omega
 ·
  rename_i q
  have:a % b≠0:=fun e=>q (.inr (Int.dvd_of_emod_eq_zero e))
  omega
def frD (q:Rat):D:=.tup [.int q.num,.int (q.den:Int)]
theorem gcd_pos {t b:Int} (h:b≠0):0 < Int.gcd t b:=Int.gcd_pos_of_ne_zero_right _ h
def bO (t b:Int):Int:=if b < 0 then -(Int.gcd t b:Int) else (Int.gcd t b:Int)
theorem share_ne {t b:Int} (h:b≠0):bO t b≠0:=by
 have:=gcd_pos (t:=t) h
 unfold bO
 split <;> omega
theorem share_abs (t b:Int):(bO t b).natAbs=Int.gcd t b:=by
 unfold bO
 split <;> omega
theorem share_le {t b:Int} (h:b≠0):(bO t b).natAbs≤b.natAbs:=by
 rw [share_abs]
 exact Nat.le_of_dvd (by omega) (by have:=Int.gcd_dvd_right t b; exact Int.natAbs_dvd_natAbs.mpr this |> fun q=>by simpa using q)
theorem fdiv_neg_of {a g:Int} (hg:g≠0) (h:g∣a):a.fdiv (-g)=-(a / g):=by
 obtain ⟨k,rfl⟩:=h
 rw [Int.mul_ediv_cancel_left _ hg,show g*k=(-g)*(-k) by rw [Int.neg_mul_neg],Int.mul_fdiv_cancel_left _ (by omega)]
theorem low_num {t b:Int} (h:b≠0):t.fdiv (bO t b)=(Rat.divInt t b).num:=by
 have hg:=gcd_pos (t:=t) h
 have hd:(Int.gcd t b:Int)∣t:=Int.gcd_dvd_left t b
 rw [Rat.num_divInt,Int.gcd_comm b t]
 unfold bO
 split
 ·
  rename_i hb
  rw [fdiv_neg_of (by omega) hd,Int.sign_eq_neg_one_of_neg hb,Int.neg_one_mul,Int.neg_ediv_of_dvd hd]
 ·
  rename_i hb
  rw [Int.sign_eq_one_of_pos (by omega),Int.one_mul,Int.fdiv_eq_ediv_of_nonneg _ (by omega)]
theorem low_den {t b:Int} (h:b≠0):b.fdiv (bO t b)=((Rat.divInt t b).den:Int):=by
 have hg:=gcd_pos (t:=t) h
 have hd:(Int.gcd t b:Int)∣b:=Int.gcd_dvd_right t b
 rw [Rat.den_divInt,if_neg h,Int.gcd_comm b t,Int.natCast_ediv]
 unfold bO
 split
 ·
  rename_i hb
  rw [fdiv_neg_of (by omega) hd,← Int.neg_ediv_of_dvd hd]
  congr 1
  omega
 ·
  rename_i hb
  rw [Int.fdiv_eq_ediv_of_nonneg _ (by omega)]
  congr 1
  omega
theorem den_le {t b:Int} (h:b≠0):(Rat.divInt t b).den≤b.natAbs:=by
 rw [Rat.den_divInt,if_neg h]
 exact Nat.div_le_self _ _
theorem num_le {t b:Int} (h:b≠0):(Rat.divInt t b).num.natAbs≤t.natAbs:=by
 rw [← low_num h]
 exact PySem.natAbs_fdiv_le _ _
theorem den_pos (q:Rat):0 < q.den:=Nat.pos_of_ne_zero q.den_nz
theorem add_eq (p q:Rat):Rat.divInt (p.num*(q.den:Int)+q.num*(p.den:Int)) ((p.den:Int)*(q.den:Int))=p+q:=by
 have hp:=den_pos p
 have hq:=den_pos q
 have:=Rat.divInt_add_divInt p.num q.num (d₁:=(p.den:Int)) (d₂:=(q.den:Int)) (by omega) (by omega)
 rw [Rat.num_divInt_den,Rat.num_divInt_den] at this
 exact this.symm
theorem sub_eq (p q:Rat):Rat.divInt (p.num*(q.den:Int) - q.num*(p.den:Int)) ((p.den:Int)*(q.den:Int))=p - q:=by
 have:=add_eq p (-q)
 rw [Rat.sub_eq_add_neg,← this]
 simp only [Rat.neg_num,Rat.neg_den,Int.neg_mul,Int.sub_eq_add_neg]
def RB (n:Nat) (q:Rat):Prop:=q.num.natAbs < 2 ^ n∧q.den < 2 ^ n
theorem RB.mono {m n:Nat} {q:Rat} (h:RB m q) (hl:m≤n):RB n q:=⟨Nat.lt_of_lt_of_le h.1 (Nat.pow_le_pow_right (by decide) hl),Nat.lt_of_lt_of_le h.2 (Nat.pow_le_pow_right (by decide) hl)⟩
theorem RB.neg {n:Nat} {q:Rat} (h:RB n q):RB n (-q):=⟨by rw [Rat.neg_num,Int.natAbs_neg]; exact h.1,by rw [Rat.neg_den]; exact h.2⟩
theorem RB.bn {n:Nat} {q:Rat} (h:RB n q) (hl:n≤1000000):bM q.num:=Nat.lt_of_lt_of_le h.1 (Nat.pow_le_pow_right (by decide) hl)
theorem RB.bd {n:Nat} {q:Rat} (h:RB n q) (hl:n≤1000000):bM (q.den:Int):=by
 unfold bM
 rw [Int.natAbs_natCast]
 exact Nat.lt_of_lt_of_le h.2 (Nat.pow_le_pow_right (by decide) hl)
theorem aS {a b m n:Nat} (h1:a < 2 ^ m) (h2:b < 2 ^ n):a*b < 2 ^ (m+n):=by
 rw [Nat.pow_add]
 exact Nat.mul_lt_mul'' h1 h2
theorem RB.add {m n:Nat} {p q:Rat} (hp:RB m p) (hq:RB n q):RB (m+n+1) (p+q):=by
 have dp:=den_pos p
 have dq:=den_pos q
 have hne:((p.den:Int)*(q.den:Int))≠0:=Int.mul_ne_zero (by omega) (by omega)
 rw [← add_eq p q]
 have a1:=aS hp.1 hq.2
 have a2:=aS hq.1 hp.2
 have a3:=aS hp.2 hq.2
 have e:(2:Nat) ^ (m+n+1)=2 ^ (m+n)+2 ^ (m+n):=by rw [Nat.pow_succ]; omega
 rw [Nat.add_comm n m] at a2
 constructor
 ·
  refine Nat.lt_of_le_of_lt (num_le hne) ?_
  refine Nat.lt_of_le_of_lt (Int.natAbs_add_le _ _) ?_
  rw [Int.natAbs_mul,Int.natAbs_mul,Int.natAbs_natCast,Int.natAbs_natCast,e]
  omega
 ·
  refine Nat.lt_of_le_of_lt (den_le hne) ?_
  rw [Int.natAbs_mul,Int.natAbs_natCast,Int.natAbs_natCast,e]
  omega
theorem den_add_le (p q:Rat):(p+q).den≤p.den*q.den:=by
 have dp:=den_pos p
 have dq:=den_pos q
 have hne:((p.den:Int)*(q.den:Int))≠0:=Int.mul_ne_zero (by omega) (by omega)
 rw [← add_eq p q]
 have:=den_le (t:=p.num*(q.den:Int)+q.num*(p.den:Int)) hne
 rw [Int.natAbs_mul,Int.natAbs_natCast,Int.natAbs_natCast] at this
 exact this
end L2
namespace L2
open PySem
@[simp] theorem eqD_int (i j:Int):eqD (.int i) (.int j)=decide (i=j):=by
 simp [eqD,toP,PyData.eqv]
 by_cases h:i=j <;> simp [h]
@[simp] theorem eqD_str (i j:Str):eqD (.str i) (.str j)=decide (i=j):=by
 simp [eqD,toP,PyData.eqv]
 by_cases h:i=j <;> simp [h]
@[simp] theorem eqD_bl (i j:Bool):eqD (.bl i) (.bl j)=decide (i=j):=by
 simp [eqD,toP,PyData.eqv]
 cases i <;> cases j <;> rfl
@[simp] theorem shapeD_int (i:Int):bf (.int i):=rfl
@[simp] theorem shapeD_bl (i:Bool):bf (.bl i):=rfl
@[simp] theorem shapeD_non:bf .non:=rfl
mutual
def okD:Nat→D→Bool
 | _,.non=>true
 | _,.bl _=>true
 | _,.int _=>true
 | _,.str x=>PyData.strOk x
 | 0,.tup _=>false
 | 0,.lst _=>false
 | n+1,.tup xs=>okDs n xs
 | n+1,.lst xs=>okDs n xs
 | _,.dct _=>false
def okDs:Nat→List D→Bool
 | _,[]=>true
 | n,x::xs=>okD n x && okDs n xs
end
mutual
theorem okD_lay:∀ (n:Nat) (d:D),okD n d=true→(toP d).canLay0=true∧(toP d).depth≤n
 | _,.non,_=>⟨rfl,Nat.zero_le _⟩
 | _,.bl _,_=>⟨rfl,Nat.zero_le _⟩
 | _,.int _,_=>⟨rfl,Nat.zero_le _⟩
 | _,.str x,h=>⟨by simpa [okD,toP,PyData.canLay0] using h,Nat.zero_le _⟩
 | 0,.tup _,h=>by simp [okD] at h
 | 0,.lst _,h=>by simp [okD] at h
 | n+1,.tup xs,h=>by
  obtain ⟨h1,h2⟩:=okDs_lay n xs (by simpa [okD] using h)
  exact ⟨h1,Nat.succ_le_succ h2⟩
 | n+1,.lst xs,h=>by
  obtain ⟨h1,h2⟩:=okDs_lay n xs (by simpa [okD] using h)
  exact ⟨h1,Nat.succ_le_succ h2⟩
 | _,.dct _,h=>by simp [okD] at h
theorem okDs_lay:∀ (n:Nat) (ds:List D),okDs n ds=true→PyData.canLayAll0 (toPs ds)=true∧PyData.depthAll (toPs ds)≤n
 | _,[],_=>⟨rfl,Nat.zero_le _⟩
 | n,d::ds,h=>by
  have h':okD n d=true∧okDs n ds=true:=by simpa [okDs] using h
  obtain ⟨a1,a2⟩:=okD_lay n d h'.1
  obtain ⟨b1,b2⟩:=okDs_lay n ds h'.2
  exact ⟨by simp [toPs,PyData.canLayAll0,a1,b1],by simp only [toPs,PyData.depthAll]; omega⟩
end
theorem bj {n:Nat} {d:D} (h:okD n d=true) (hn:n≤64):bf d:=by
 obtain ⟨h1,h2⟩:=okD_lay n d h
 unfold bf SeqAt.shaped
 rw [h1,decide_eq_true (by omega)]
 rfl
theorem eqD_tup (xs ys:List D):eqD (.tup xs) (.tup ys)=PyData.eqvAll (toPs xs) (toPs ys):=by simp [eqD,toP,PyData.eqv]
theorem eqD_lst (xs ys:List D):eqD (.lst xs) (.lst ys)=PyData.eqvAll (toPs xs) (toPs ys):=by simp [eqD,toP,PyData.eqv]
theorem eqDs_cons (x y:D) (xs ys:List D):PyData.eqvAll (toPs (x::xs)) (toPs (y::ys))=(eqD x y && PyData.eqvAll (toPs xs) (toPs ys)):=by simp [toPs,PyData.eqvAll,eqD]
theorem eqDs_nil:PyData.eqvAll (toPs []) (toPs [])=true:=by simp [toPs,PyData.eqvAll]
theorem eqD_refl {n:Nat} {d:D} (h:okD n d=true):eqD d d=true:=SeqAt.eqv_refl _ (okD_lay n d h).1
theorem shape_fr (q:Rat):bf (frD q):=bj (n:=1) (by simp [frD,okD,okDs]) (by decide)
theorem eqD_fr (p q:Rat):eqD (frD p) (frD q)=decide (p=q):=by
 unfold frD
 rw [eqD_tup,eqDs_cons,eqDs_cons,eqDs_nil,eqD_int,eqD_int,Bool.and_true]
 by_cases h:p=q
 ·
  subst h; simp
 ·
  rw [decide_eq_false h]
  by_cases h1:p.num=q.num
  ·
   have:¬ ((p.den:Int)=(q.den:Int)):=fun e=>h (Rat.ext h1 (by omega))
   simp [this]
  ·
   simp [h1]
end L2
namespace L2
open PySem PySem.Spec PyProof.Rows
section
variable {X:Cx} {e a b c:Expr} {es rest:List Expr} {pos p p2 apos cpos:Pos} {ta tb tc te:W L} {x y:Str}
def wChain (o o':Op2) (ta tb tc:W L):W L:=fun ρ post=>ta ρ fun r ρ1=>eU r fun i=>tb ρ1 fun r ρ2=>eU r fun j=>o (.int i) (.int j) fun z=>isBl z fun k=>if k=true then tc ρ2 fun r ρ3=>eU r fun l=>o' (.int j) (.int l) fun z=>post z ρ3 else post (.d (.bl false)) ρ2
def CmpI (X:Cx) (op:CmpOp) (o:Op2):Prop:=∃ f:Int→Int→Bool,OpR X (compareOp op) (rI0 fun i j=>.bl (f i j))∧∀ i j k,o (.int i) (.int j) k→k (.d (.bl (f i j)))
theorem ci_lt:CmpI X .Lt opLt:=⟨_,op_lt,fun _ _ _ h=>h⟩
theorem ci_le:CmpI X .LtE opLe:=⟨_,op_le,fun _ _ _ h=>h⟩
theorem chain_te {op op':CmpOp} {o o':Op2} {f f':Int→Int→Bool} (h1:∀ i j k,o (.int i) (.int j) k→k (.d (.bl (f i j)))) (h2:∀ i j k,o' (.int i) (.int j) k→k (.d (.bl (f' i j))))
  (σ:St) (H Pr:Hp) (ρ:Ev) (post:L→Ev→Prop) (Q:VK) (hQ:∀ v H' r ρ',REnv X.K Pr H' (some v::σ) (r::ρ')→post r ρ'→Q v H') (E:REnv X.K Pr H σ ρ) (h:wChain o o' ta tb tc ρ post) :
  tChain (rI0 fun i j=>.bl (f i j)) (rI0 fun i j=>.bl (f' i j)) (tL X.K ta) (tL X.K tb) (tL X.K tc) σ H Q:=by
 refine ⟨Pr,ρ,_,E,h,fun v H1 r ρ1 E1 p=>?_⟩
 obtain ⟨i,rfl,p⟩:=cI p
 obtain ⟨_,e1,r1⟩:=E1.head_d
 cases e1
 cases r1
 refine ⟨Pr,ρ1,_,E1.tail,p,fun v H2 r ρ2 E2 p=>?_⟩
 obtain ⟨j,rfl,p⟩:=cI p
 obtain ⟨_,e1,r1⟩:=E2.head_d
 cases e1
 cases r1
 refine ⟨i,j,rfl,rfl,f i j,rfl,?_⟩
 have q:=h1 i j _ p
 cases hk:f i j with
 | false =>
  rw [hk] at q
  exact hQ _ _ _ ρ2 (E2.tail.cons_d (.bl false)) q
 | true =>
  rw [hk] at q
  refine ⟨Pr,ρ2,_,E2.tail,q,fun v H3 r ρ3 E3 p=>?_⟩
  obtain ⟨l,rfl,p⟩:=cI p
  obtain ⟨_,e1,r1⟩:=E3.head_d
  cases e1
  cases r1
  exact ⟨j,l,rfl,rfl,hQ _ _ _ ρ3 (E3.tail.cons_d (.bl _)) (h2 j l _ p)⟩
theorem pl_chain {op op':CmpOp} {o o':Op2} (ho:CmpI X op o) (ho':CmpI X op' o') (ha:PL X a ta) (hb:PL X b tb) (hc:PL X c tc) (hm:lastMarks [op,op'] [b,c]=false:=by with_unfolding_all rfl) :
  PL X (.Compare a [op,op'] [b,c] pos) (wChain o o' ta tb tc):=by
 obtain ⟨f,r1,h1⟩:=ho
 obtain ⟨f',r2,h2⟩:=ho'
 exact PL.of (pe_chain r1 r2 ha.pe hb.pe hc.pe hm) fun σ H Pr ρ post E h=>chain_te (op:=op) (op':=op') h1 h2 σ H Pr ρ post _ (fun v H' r ρ' E' p=>⟨r,ρ',E',p⟩) E h
end
end L2
namespace L2
open PySem PySem.Spec PyProof.Rows PySem.Builtin.Str
section
variable {X:Cx} {e a b c:Expr} {es rest:List Expr} {pos p p2 apos cpos:Pos} {ta tb tc te:W L} {x y:Str}
theorem sl_str:SlR X (fun x lo hi H Q=>∃ z,x=.str z∧z.length≤sizeLine∧Q (.str (Txt.slice z lo hi)) H):=by
 intro pins s σ H x v vl vu lo hi sl Q I rx hs pl pu h
 obtain ⟨z,rfl,hz,q⟩:=h
 obtain ⟨t,rfl⟩:=rx
 refine ⟨"str",_,F.slot_str_getitem.lookup,typeIs_str _ _ _,?_⟩
 obtain ⟨l',rfl,rfl⟩:∃ l':Option (Int×Tok),vl=partValue l'∧lo=l'.map (·.1):=by
  cases pl
  ·
   exact ⟨none,rfl,rfl⟩
  ·
   exact ⟨some (_,_),rfl,rfl⟩
 obtain ⟨u',rfl,rfl⟩:∃ l':Option (Int×Tok),vu=partValue l'∧hi=l'.map (·.1):=by
  cases pu
  ·
   exact ⟨none,rfl,rfl⟩
  ·
   exact ⟨some (_,_),rfl,rfl⟩
 exact wpAny_getItem_str_slice (l:=l') (u:=u') (st:=none) hs rfl (post_val_or_str ⟨Nat.le_trans (Txt.slice_le z _ _) hz,fun t' k=>⟨.str _,H,I.tok k,⟨t',rfl⟩,q⟩⟩)
def wSl2 (ta:W L) (lo hi:Option (W L)):W L:=fun ρ post=>ta ρ fun r ρ1=>toD r fun d=>wPart lo ρ1 fun l ρ2=>wPart hi ρ2 fun u ρ3=>match d with
 | .lst xs=>∀ a,post (.own a (cutD xs l u)) ρ3
 | .str z=>z.length≤sizeLine∧post (.d (.str (Txt.slice z l u))) ρ3
 | .tup xs=>¬ (HT.sIx xs.length 0 l=0∧HT.sIx xs.length xs.length u=xs.length)∧post (.d (.tup (cutD xs l u))) ρ3
 | _=>False
theorem pl_slice2 {lo hi:Option Expr} {tl th:Option (W L)} (ha:PL X a ta) (hl:PO' X lo tl) (hh:PO' X hi th):PL X (.Subscript a (.Slice lo hi none p2) pos) (wSl2 ta tl th):=by
 refine PL.of (pe_slice (SlR.or sl_list (SlR.or sl_str sl_tup)) (am ha).pe (po_of hl) (po_of hh)) fun σ H Pr ρ post E h=>?_
 refine ⟨Pr,ρ,fun r ρ1=>match r with
  | .d d=>wPart tl ρ1 fun l ρ2=>wPart th ρ2 fun u ρ3=>match d with
   | .lst xs=>∀ a,post (.own a (cutD xs l u)) ρ3
   | .str z=>z.length≤sizeLine∧post (.d (.str (Txt.slice z l u))) ρ3
   | .tup xs=>¬ (HT.sIx xs.length 0 l=0∧HT.sIx xs.length xs.length u=xs.length)∧post (.d (.tup (cutD xs l u))) ρ3
   | _=>False
  | _=>False,E,h,fun v H1 r ρ1 E1 pp=>?_⟩
 cases r with
 | d d =>
  obtain ⟨_,e1,p1⟩:=E1.head_d
  cases e1
  refine ⟨a0 H1 ρ1,ρ1,_,E1.tail.wide,pp,fun l H2 ρ2 E2 pp=>?_⟩
  have F2:REnv X.K Pr H2 (some v::σ) (.d d::ρ2):=REnv.step (τ:=[some v]) (lam:=[.d d]) (w:=[]) (μ:=[]) E1 rfl E2 rfl
  refine ⟨a0 H2 ρ2,ρ2,_,F2.tail.wide,pp,fun u H3 ρ3 E3 pp=>?_⟩
  have F3:REnv X.K Pr H3 (some v::σ) (.d d::ρ3):=REnv.step (τ:=[some v]) (lam:=[.d d]) (w:=[]) (μ:=[]) F2 rfl E3 rfl
  obtain ⟨_,e1,p1⟩:=F3.head_d
  cases e1
  cases p1 with
  | lst hz rs=>exact .inl ⟨_,_,rfl,hz.l,fun q hq=>⟨_,_,F3.tail.cons_own hq (cutV_reps rs l u),pp q⟩⟩
  | str z=>exact .inr (.inl ⟨z,rfl,pp.1,_,_,F3.tail.cons_d (.str _),pp.2⟩)
  | tup hz rs=>exact .inr (.inr ⟨_,_,rfl,hz,by rw [rs.length]; exact pp.1,fun q hq=>⟨_,_,F3.tail.cons_tup hq (cutV_reps rs l u),pp.2⟩⟩)
  | _=>exact pp.elim
 | _=>exact pp.elim
def rJoin (K:PySem.W.Frag):V→List V→Hp→VK→Prop:=fun x vs H Q=>∃ z a ys zs,x=.str z∧vs=[.ref a]∧(SqL K H a ys∨SqT K H a ys)∧ys=zs.map V.str∧(zs.map (·.length)).sum+zs.length*z.length≤16777216∧Q (.str (Txt.join z zs)) H
theorem vals_strs:∀ {zs:List Str} {us:List Value},Vals (zs.map V.str) us→StrsAre us zs
 | [],_,.nil=>.nil
 | z::zs,_,.cons r t=>by
  obtain ⟨t',rfl⟩:=r
  exact .cons z t' (vals_strs t)
theorem mt_join:MtR X "str.join" (rJoin X.K):=by
 intro pins s σ H x vs v us Q I rx rv h
 obtain ⟨z,a,ys,zs,rfl,rfl,hq,rfl,hz,q⟩:=h
 obtain ⟨t,rfl⟩:=rx
 obtain ⟨u,rfl,ru⟩:=rv.one
 cases ru
 rcases hq with hq | hq
 ·
  obtain ⟨its,r,pl,_⟩:=I.list hq
  exact join_list pl.isList (by simpa using vals_strs r) hz fun t' k=>⟨.str _,H,I.tok k,⟨t',rfl⟩,q⟩
 ·
  obtain ⟨its,r,pl,_⟩:=I.tuple hq
  exact join_tuple pl (by simpa using vals_strs r) hz fun t' k=>⟨.str _,H,I.tok k,⟨t',rfl⟩,q⟩
end
end L2
namespace L2
open PySem PySem.Spec PyProof.Rows PySem.Builtin.Str
section
variable {X:Cx} {e a b c:Expr} {es rest:List Expr} {pos p p2 apos cpos:Pos} {ta tb tc te:W L} {x y:Str}
def wJoin (z:Str) (te:W L):W L:=fun ρ post=>te ρ fun r ρ1=>toD r fun d=>fA d fun xs=>∃ zs,xs=zs.map D.str∧(zs.map (·.length)).sum+zs.length*z.length≤16777216∧post (.d (.str (Txt.join z zs))) ρ1
theorem reps_strs {K:PySem.W.Frag} {H:Hp}:∀ {zs:List Str} {vs:List V},Reps K H vs (zs.map D.str)→vs=zs.map V.str
 | [],_,.nil=>rfl
 | z::zs,_,.cons r t=>by
  cases r
  rw [reps_strs t]
  rfl
theorem pl_join {z:Str} {j:Nat} {pz:Pos} (he:PL X e te) (hs1:starEach [e] X.env=[(false,eval e X.env)]:=by rfl) (hbase:attributeBase (.Constant (.str z) j pz) "join" X.env (eval (.Constant (.str z) j pz) X.env)=eval (.Constant (.str z) j pz) X.env:=by rfl)
  (hfew:((backTo cpos (starEach [e] X.env)).all (fun x=>!x.1) && (backToKw cpos (keywordEach [] X.env)).all (fun x=>x.1.isSome)
   && decide (([e]).length+([]:List Keyword).length+(if ([]:List Keyword).isEmpty then 0 else 1) < 30))=true:=by rfl)
  (hline:(apos.endLine == cpos.line)=true:=by rfl) (hplain:(backTo cpos (starEach ([]:List Expr) X.env)).any (·.1)=false:=by rfl) :
  PL X (.Call (.Attribute (.Constant (.str z) j pz) "join" apos) [e] [] cpos) (wJoin z te):=by
 refine PL.of (pe_bm PySem.F.plainAttrs_str PySem.F.slot_str_join PySem.F.type_str_join mt_join pe_str (dh (am he).pe pa_nil hs1) (hbase:=hbase) (hfew:=hfew) (hline:=hline) (hs:=hs1) (hplain:=hplain)) fun σ H Pr ρ post E h=>?_
 refine ⟨rfl,Pr,ρ,fun r ρ1=>match r with
  | .d d=>fA d fun xs=>∃ zs,xs=zs.map D.str∧(zs.map (·.length)).sum+zs.length*z.length≤16777216∧post (.d (.str (Txt.join z zs))) ρ1
  | _=>False,E,h,fun v H' r ρ' E' pp=>?_⟩
 cases r with
 | d d =>
  obtain ⟨_,e1,p1⟩:=E'.head_d
  cases e1
  cases p1 with
  | lst hz rs =>
   obtain ⟨zs,rfl,hl,pp⟩:=pp
   exact ⟨z,_,_,zs,rfl,rfl,.inl hz.l,reps_strs rs,hl,_,_,E'.tail.cons_d (.str _),pp⟩
  | tup hz rs =>
   obtain ⟨zs,rfl,hl,pp⟩:=pp
   exact ⟨z,_,_,zs,rfl,rfl,.inr hz,reps_strs rs,hl,_,_,E'.tail.cons_d (.str _),pp⟩
  | _=>exact pp.elim
 | _=>exact pp.elim
theorem Inv.turnedL {pins:List (Addr×Obj)} {σ:St} {H:Hp} {s:Shared} {h':Heap} {t':Nat} {fp:List Addr} (I:Inv X pins σ H s) (k:∀ b o,b∉fp→s.heap.get? b=some o→h'.get? b=some o) (hf:∀ b∈fp,FpOk X pins H b):Inv X pins σ H { s with heap:=h',toks:=t' }:=by
 have nit:∀ b u,H b=some u→b∉fp:=fun b u e z=>by rw [(hf b z).1] at e; cases e
 refine I.step (g':=s.gens) (d':=s.drawn) (ch:=fp) (fun b hb=>?_) (fun b o _ _ hc e _=>k b o hc e) (fun b o _ _ hc e _=>⟨o.slots,k b o hc e⟩) (fun _ _ _ _ n=>n)
  (fun b o hc e=>⟨o,k b o hc e⟩) (fun _ _ e=>e) (fun _ _ _ e=>e) (fun b ps e=>⟨#[],by rw [e]; simp⟩) (fun m hm=>?_) (fun b u e=>?_) I.bare
 ·
  obtain ⟨f0,f1,f2,f3,f4,f5⟩:=hf b hb
  exact ⟨f3,f1,f4,f5⟩
 ·
  obtain ⟨o,es,ep,ho,r⟩:=hm
  exact ⟨o,es,ep,k _ o (fun z=>(hf _ z).2.1 rfl) ho,r⟩
 ·
  refine (I.hok b u e).stay (fun c v hc q=>k c v ?_ q) (fun _ q=>q) fun _ _ q=>q
  rcases hc with z | z
  ·
   rw [z]; exact nit b u e
  ·
   exact nit c _ z
def Ite (K:PySem.W.Frag) (a:Addr):It :=
 ⟨fun i H=>∃ xs x,SqL K H a xs∧xs[i]?=some x,fun i H v H'=>∃ p x,v=.ref p∧H p=none∧H'=upd H p (.tup [.int i,x])∧∀ xs,SqL K H a xs→xs[i]?=some x,fun i H=>∃ xs,SqL K H a xs∧xs.length≤i⟩
theorem turn_enum {P:Program} {w:World} {K:PySem.W.Frag} {k:Nat} (q it a:Addr) (hne:q≠it):Turn P w K (.Tuple es k pos) (Ite K a) [q,it] q (fun i h=>(∃ old,IsEnum h q it i old)∧h.IsListIter it a i) where
 mem:=by simp
 obj:=fun i h st b hb=>by
  obtain ⟨⟨old,he⟩,o,e,c,d⟩:=st
  rcases List.mem_cons.mp hb with rfl | hb
  ·
   exact ⟨_,he,fun v z=>by
    have z':Data.fields _=Data.cell v:=z
    cases z'⟩
  ·
   have e':b=it:=by simpa using hb
   subst e'
   exact ⟨o,e,fun v z=>by rw [d] at z; cases z⟩
 keep:=fun i h h' st kk=>⟨let ⟨old,he⟩:=st.1; ⟨old,kk q (by simp) _ he⟩,st.2.at fun o e=>kk it (by simp) o e⟩
 item:=by
  intro X hP hw hK hc i pins s σ H E I hf st hg
  subst hP hw hK
  obtain ⟨xs,x,hq,hx⟩:=hg
  obtain ⟨its,rv,p,hz⟩:=I.list hq
  obtain ⟨u,hu,ru⟩:=rv.get hx
  obtain ⟨⟨old,he⟩,hit⟩:=st
  have hai:a≠it:=fun z=>by
   subst z
   obtain ⟨o,e,c,d⟩:=hit
   obtain ⟨o',e',c',_⟩:=p.isList
   rw [e] at e'; cases e'
   rw [c] at c'; exact absurd c' (by simp)
  have hqa:q≠a:=fun z=>by
   subst z
   obtain ⟨o',e',c',_⟩:=p.isList
   rw [he] at e'; cases e'
   exact absurd c' (by simp)
  have D:=Draws.list (prog:=X.prog) (w:=X.w) (A:=X.A.in1) (I.ok.hd hc) it a hai its.toArray
  have hlt:i < its.toArray.size:=by
   rw [List.size_toArray]
   exact (List.getElem?_eq_some_iff.mp hu).1
  refine wpAny_pyNext_enum_itemD D he ⟨hit,p.isList⟩ hlt hne (by simp [hne,hqa]) fun x' h' tk hPx hout hst' htup hsz hk=>?_
  have hx':x'=u:=by
   have:its.toArray[i]?=some u:=by simpa using hu
   rw [this] at hPx; exact (Option.some.inj hPx).symm
  subst hx'
  refine ⟨.ref s.heap.objs.size,rfl,wpAny_letOwnedTupleGo_enum (s:={ s with heap:=h',toks:=tk+1 }) hout fun h'' he'' hs''=>?_⟩
  have qlt:q < s.heap.objs.size:=Heap.lt_size he
  have ilt:it < s.heap.objs.size:=by obtain ⟨o,e,_⟩:=hit; exact Heap.lt_size e
  have I1:Inv X pins σ (upd H s.heap.objs.size (.tup [.int i,x])) { s with heap:=s.heap.push { cls:=.type "tuple",data:=.seq #[.int i tk,x'] },toks:=tk } :=
   I.laid (fun b ob q=>Heap.get?_push_of_some _ q) (Nat.le_refl _) ⟨by show 2≤sizeLine; decide,[.int i tk,x'],.cons ⟨tk,rfl⟩ (.cons ru .nil),⟨_,Heap.get?_push_size _ rfl,rfl,_,rfl⟩⟩
  have hf1:∀ b∈[q,it],FpOk X pins (upd H s.heap.objs.size (.tup [.int i,x])) b:=fun b hb=>by
   refine ⟨?_,(hf b hb).2⟩
   rw [aI ?_]
   ·
    exact (hf b hb).1
   ·
    rcases List.mem_cons.mp hb with rfl | hb
    ·
     exact Nat.ne_of_lt qlt
    ·
     rw [List.mem_singleton.mp hb]; exact Nat.ne_of_lt ilt
  have I2:=I1.turnedL (h':=h'') (t':=tk+1) (fp:=[q,it]) (fun b o hb e=>by
   have hbq:b≠q:=fun z=>hb (by simp [z])
   have hbi:b≠it:=fun z=>hb (by simp [z])
   refine (hs''.2 b hbq).trans ?_
   rcases Heap.get?_push_cases e with ⟨rfl,rfl⟩ | e
   ·
    exact htup
   ·
    exact hk b o hbq hbi e) hf1
  refine ⟨.ref s.heap.objs.size,_,I2,rfl,⟨_,x,rfl,I.fresh,rfl,fun ys hy=>by rw [I.list_inj hy hq]; exact hx⟩,⟨⟨_,by simpa using he''⟩,hst'.1.extBut hs''.extBut (Ne.symm hne)⟩,fun b hb=>(hf1 b hb).1⟩
 done:=by
  intro X hP hw hK hc i pins s σ H E I hf st hg
  subst hP hw hK
  obtain ⟨xs,hq,hx⟩:=hg
  obtain ⟨its,rv,p,hz⟩:=I.list hq
  obtain ⟨⟨old,he⟩,hit⟩:=st
  have hai:a≠it:=fun z=>by
   subst z
   obtain ⟨o,e,c,d⟩:=hit
   obtain ⟨o',e',c',_⟩:=p.isList
   rw [e] at e'; cases e'
   rw [c] at c'; exact absurd c' (by simp)
  have hl:=rv.length
  have hT:s.TypeIs (.ref q) "enumerate":=⟨_,he,rfl⟩
  unfold pyNext
  refine wpAny_bind (wpAny_attempt (wpAny_callSpecial?_slot (name:=Str.ofString "__next__") hT F.slot_enumerate_next
   (wpAny_call_entry F.slot_enumerate_next hT F.entry_enumerate_next ?_ (F.args_enumerate_next_1 _))))
  show wpAny _ _ (field (.ref q) 2 >>= _) _ _ _
  refine wpAny_bind (wpAny_field he rfl (x:=.ref it) rfl ?_)
  refine wpAny_bind (wpAny_nextOf_list_end (I.ok.hd hc) hit p.isList (by simp; omega) fun h' x he' hx'=>?_)
  obtain ⟨o,ho,hcc⟩:=hx'
  refine wpAny_bind (wpAny_isInstance (T:="StopIteration") (b:=true) ⟨o,ho,hcc⟩ isSubtype_stop ?_)
  refine wpAny_pure ⟨rfl,?_⟩
  exact I.turnedL (t':=s.toks) (fp:=[q,it]) (fun b o hb e=>he' b o (fun z=>hb (by simp [z])) e) hf
 self:=fun _ _ _ _ _ st h=>let ⟨_,he⟩:=st.1; wpAny_pyIter_enum he h
def enumD (xs:List D):List D:=xs.zipIdx.map fun p=>.tup [.int (p.2:Int),p.1]
theorem gives_enum {K:PySem.W.Frag} {H:Hp} {a:Addr} {vs:List V} {xs:List D} (h:SqZ K H a vs) (r:Reps K H vs xs):Gives K H (Ite K a) (enumD xs):=fun H' p=>by
 have h':=(h.pres p).l
 have hlen:(enumD xs).length=vs.length:=by rw [r.length]; simp [enumD]
 refine ⟨fun i x e=>?_,⟨vs,h',by rw [hlen]; exact Nat.le_refl _⟩⟩
 have hi:i < vs.length:=by rw [← hlen]; exact (List.getElem?_eq_some_iff.mp e).1
 have hi2:i < xs.length:=by rw [← r.length]; exact hi
 have ex:x=.tup [.int (i:Int),xs[i]]:=by
  have:(enumD xs)[i]?=some (.tup [.int (i:Int),xs[i]]):=by simp [enumD,hi2]
  rw [this] at e
  exact (Option.some.inj e).symm
 obtain ⟨v,ev,rv⟩:=r.get (i:=i) (List.getElem?_eq_getElem hi2)
 refine ⟨⟨vs,v,h',ev⟩,fun w H2 ⟨q,y,e1,e2,e3,e4⟩=>?_⟩
 have e5:=e4 vs h'
 rw [ev] at e5
 cases e5
 subst e1 e3 ex
 refine ⟨.inr ⟨_,_,e2,rfl⟩,.tup (.inl (.inl (bT ..))) (.cons (.int _) (.cons ((rv.pres p).new e2) .nil))⟩
def wEnum (t:W L):W (List D):=fun ρ post=>t ρ fun r ρ1=>toD r fun d=>match d with
 | .lst xs=>post (enumD xs) ρ1
 | _=>False
theorem pil_enum {k:Nat} {t:W L} (hg:Gl X "enumerate") (hm:X.mg "enumerate"=none) (ha:PL X a t) (hs:starEach [a] X.env=[(false,eval a X.env)]:=by rfl):PIL X (.Tuple es k apos) (.Call (.Name "enumerate" p) [a] [] pos) (wEnum t):=by
 intro pins s σ H Pr ρ post I E h
 refine Call_ (ld_blt I hg hm boot_enumerate (PyProof.Rows.callWith_type1 (thn (ab (am ha) ae hs pos pins s σ H Pr ρ (fun ls ρ1=>match ls with
  | [.d (.lst xs)]=>post (enumD xs) ρ1
  | _=>False) I E ?_) fun us s1 ⟨vs,H1,ls,ρ1,I1,r1,hl,hb,E1,_,q1⟩=>?_) hs rfl))
 ·
  show t ρ _
  have e:(fun r ρ1=>toD r fun d=>match d with | .lst xs=>post (enumD xs) ρ1 | _=>False)=(fun r ρ1=>toD r fun x=>aNil ρ1 fun xs ρ2=>match L.d x::xs with | [.d (.lst xs)]=>post (enumD xs) ρ2 | _=>False):=by
   funext r ρ1
   cases r with
   | un=>rfl
   | d d=>cases d <;> rfl
   | own=>rfl
   | bx b ls =>
    show cy (bC (.bx b ls)) _=cy (bC (.bx b ls)) _
    cases bC (.bx b ls) with
    | none=>rfl
    | some d=>cases d <;> rfl
  rw [← e]
  exact h
 ·
  dsimp only at q1
  split at q1
  ·
   rename_i xs
   cases vs with
   | nil=>exact absurd hl (by simp)
   | cons v vs =>
    have:vs=[]:=by
     have:vs.length=0:=by simpa using hl
     exact List.length_eq_zero_iff.mp this
    subst this
    obtain ⟨_,e1,p1⟩:=REnv.head_d (σ:=σ) (ρ:=ρ1) E1
    cases e1
    cases p1 with
    | lst hz rs =>
     obtain ⟨u,rfl,ru⟩:=r1.one
     cases ru
     obtain ⟨its,rv,pl,hz'⟩:=I1.list hz.l
     refine call_enumerate_list pl.isList fun h' hE hI hsz hk=>?_
     refine wpAny_pyIter_enum (s:={ s1 with heap:=h' }) hE ?_
     have E2:REnv X.K Pr H1 σ ρ1:=REnv.tail (σ:=σ) (ρ:=ρ1) E1
     refine ⟨s1.heap.objs.size+1,[s1.heap.objs.size+1,s1.heap.objs.size],_,_,H1,_,ρ1,rfl,I1.kept (t':=s1.toks) hk,turn_enum _ _ _ (Nat.succ_ne_self _),⟨⟨_,hE⟩,hI⟩,fun b hb=>?_,E2,gives_enum hz rs,q1⟩
     have hb':s1.heap.objs.size≤b:=by
      rcases List.mem_cons.mp hb with rfl | hb
      ·
       exact Nat.le_succ _
      ·
       rw [List.mem_singleton.mp hb]; exact Nat.le_refl _
     exact I1.fpOk hb' (I1.hok.fresh hb')
  ·
   exact q1.elim
end
end L2
namespace L2
open PySem PySem.Spec PyProof.Rows PySem.Builtin.Str
section
variable {X:Cx} {e a b c:Expr} {es rest:List Expr} {pos p p2 apos cpos:Pos} {ta tb tc te:W L} {x y:Str}
def Itz (K:PySem.W.Frag) (a b:Addr):It :=
 ⟨fun i H=>∃ xs ys x y,SqL K H a xs∧SqL K H b ys∧xs[i]?=some x∧ys[i]?=some y,fun i H v H'=>∃ p x y,v=.ref p∧H p=none∧H'=upd H p (.tup [x,y])∧(∀ xs,SqL K H a xs→xs[i]?=some x)∧∀ ys,SqL K H b ys→ys[i]?=some y,
  fun i H=>∃ xs ys,SqL K H a xs∧SqL K H b ys∧(xs.length≤i∨ys.length≤i)⟩
theorem bP {h:Heap} {l a:Addr} {its:Array Value} {o:Obj} (hl:h.IsList l its) (ho:h.get? a=some o) (hc:o.cls≠.type "list"):l≠a:=fun z=>by
 subst z
 obtain ⟨o',e',c',_⟩:=hl
 rw [ho] at e'; cases e'
 exact hc c'
theorem turn_zip {P:Program} {w:World} {K:PySem.W.Frag} {k:Nat} (z TI TO i1 i2 l1 l2:Addr) (hnd:[z,TI,TO,i1,i2].Nodup):Turn P w K (.Tuple es k pos) (Itz K l1 l2) [z,TI,TO,i1,i2] z
  (fun i h=>IsZip h z TI TO .none∧IsPair h TI (.ref i1) (.ref i2)∧(∃ a b,IsPair h TO a b)∧h.IsListIter i1 l1 i∧h.IsListIter i2 l2 i) where
 mem:=by simp
 obj:=fun i h st b hb=>by
  obtain ⟨hz,hTI,⟨p,q,hTO⟩,⟨o1,e1,c1,d1⟩,⟨o2,e2,c2,d2⟩⟩:=st
  simp only [List.mem_cons,List.not_mem_nil,or_false] at hb
  rcases hb with rfl | rfl | rfl | rfl | rfl
  ·
   exact ⟨_,hz,fun v z=>by
    have z':Data.fields _=Data.cell v:=z
    cases z'⟩
  ·
   exact ⟨_,hTI,fun v z=>by
    have z':Data.seq _ _=Data.cell v:=z
    cases z'⟩
  ·
   exact ⟨_,hTO,fun v z=>by
    have z':Data.seq _ _=Data.cell v:=z
    cases z'⟩
  ·
   exact ⟨o1,e1,fun v z=>by rw [d1] at z; cases z⟩
  ·
   exact ⟨o2,e2,fun v z=>by rw [d2] at z; cases z⟩
 keep:=fun i h h' st kk=>by
  obtain ⟨hz,hTI,⟨p,q,hTO⟩,h1,h2⟩:=st
  exact ⟨kk z (by simp) _ hz,kk TI (by simp) _ hTI,⟨p,q,kk TO (by simp) _ hTO⟩,h1.at fun o e=>kk i1 (by simp) o e,h2.at fun o e=>kk i2 (by simp) o e⟩
 item:=by
  intro X hP hw hK hc i pins s σ H E I hf st hg
  subst hP hw hK
  obtain ⟨xs,ys,x,y,hq1,hq2,hx,hy⟩:=hg
  obtain ⟨its,rv,pl,_⟩:=I.list hq1
  obtain ⟨its2,rv2,pl2,_⟩:=I.list hq2
  obtain ⟨u,hu,ru⟩:=rv.get hx
  obtain ⟨u2,hu2,ru2⟩:=rv2.get hy
  obtain ⟨hz,hTI,⟨p,q,hTO⟩,h1,h2⟩:=st
  obtain ⟨o1,e1,c1,d1⟩:=id h1
  obtain ⟨o2,e2,c2,d2⟩:=id h2
  have n1:o1.cls≠.type "list":=by rw [c1]; simp
  have n2:o2.cls≠.type "list":=by rw [c2]; simp
  simp only [List.nodup_cons,List.mem_cons,List.not_mem_nil,or_false,not_or,List.nodup_nil,and_true,not_false_eq_true] at hnd
  obtain ⟨⟨a1,a2,a3,a4⟩,⟨b1,b2,b3⟩,⟨c1',c2'⟩,d1'⟩:=hnd
  have D:ZipApart z TI TO i1 i2 l1 l2:=⟨Ne.symm a1,Ne.symm a2,Ne.symm a3,Ne.symm a4,b1,b2,b3,c1',c2',d1',bP pl.isList hz (by simp),bP pl.isList hTO (by simp),bP pl.isList e1 n1,bP pl.isList e2 n2,
   bP pl2.isList hz (by simp),bP pl2.isList hTO (by simp),bP pl2.isList e1 n1,bP pl2.isList e2 n2⟩
  refine wpAny_pyNext_zip_item D hz hTI hTO h1 h2 pl.isList pl2.isList (x:=u) (y:=u2) (by simpa using hu) (by simpa using hu2) fun h' hz' hTO' h1' h2' hT' hsz hk=>?_
  refine ⟨.ref s.heap.objs.size,rfl,wpAny_letOwnedTupleGo_zip (s:={ s with heap:=h' }) hz' fun h'' hz'' hs''=>?_⟩
  have lt:∀ b∈[z,TI,TO,i1,i2],b < s.heap.objs.size:=fun b hb=>by
   simp only [List.mem_cons,List.not_mem_nil,or_false] at hb
   rcases hb with rfl | rfl | rfl | rfl | rfl
   ·
    exact Heap.lt_size hz
   ·
    exact Heap.lt_size hTI
   ·
    exact Heap.lt_size hTO
   ·
    exact Heap.lt_size e1
   ·
    exact Heap.lt_size e2
  have I1:Inv X pins σ (upd H s.heap.objs.size (.tup [x,y])) { s with heap:=s.heap.push { cls:=.type "tuple",data:=.seq #[u,u2] },toks:=s.toks } :=
   I.laid (fun b ob q=>Heap.get?_push_of_some _ q) (Nat.le_refl _) ⟨by show 2≤sizeLine; decide,[u,u2],.cons ru (.cons ru2 .nil),⟨_,Heap.get?_push_size _ rfl,rfl,_,rfl⟩⟩
  have hf1:∀ b∈[z,TI,TO,i1,i2],FpOk X pins (upd H s.heap.objs.size (.tup [x,y])) b:=fun b hb=>by
   refine ⟨?_,(hf b hb).2⟩
   rw [aI (Nat.ne_of_lt (lt b hb))]
   exact (hf b hb).1
  have I2:=I1.turnedL (h':=h'') (t':=s.toks) (fp:=[z,TI,TO,i1,i2]) (fun b o hb e=>by
   simp only [List.mem_cons,List.not_mem_nil,or_false,not_or] at hb
   obtain ⟨hbz,hbTI,hbTO,hb1,hb2⟩:=hb
   refine (hs''.2 b hbz).trans ?_
   rcases Heap.get?_push_cases e with ⟨rfl,rfl⟩ | e
   ·
    exact hT'
   ·
    exact hk b o hbz hbTO hb1 hb2 e) hf1
  exact ⟨.ref s.heap.objs.size,_,I2,rfl,⟨_,x,y,rfl,I.fresh,rfl,fun zs hy'=>by rw [I.list_inj hy' hq1]; exact hx,fun zs hy'=>by rw [I.list_inj hy' hq2]; exact hy⟩,
   ⟨hz'',hs''.extBut _ _ D.TIz (hk _ _ D.TIz D.TITO D.TIi1 D.TIi2 hTI),⟨_,_,hs''.extBut _ _ D.TOz hTO'⟩,h1'.extBut hs''.extBut D.i1z,h2'.extBut hs''.extBut D.i2z⟩,fun b hb=>(hf1 b hb).1⟩
 done:=by
  intro X hP hw hK hc i pins s σ H E I hf st hg
  subst hP hw hK
  obtain ⟨xs,ys,hq1,hq2,hend⟩:=hg
  obtain ⟨its,rv,pl,_⟩:=I.list hq1
  obtain ⟨its2,rv2,pl2,_⟩:=I.list hq2
  obtain ⟨hz,hTI,⟨p,q,hTO⟩,h1,h2⟩:=st
  obtain ⟨o1,e1,c1,d1⟩:=id h1
  obtain ⟨o2,e2,c2,d2⟩:=id h2
  have n1:o1.cls≠.type "list":=by rw [c1]; simp
  have n2:o2.cls≠.type "list":=by rw [c2]; simp
  simp only [List.nodup_cons,List.mem_cons,List.not_mem_nil,or_false,not_or,List.nodup_nil,and_true,not_false_eq_true] at hnd
  obtain ⟨⟨a1,a2,a3,a4⟩,⟨b1,b2,b3⟩,⟨c1',c2'⟩,d1'⟩:=hnd
  have D:ZipApart z TI TO i1 i2 l1 l2:=⟨Ne.symm a1,Ne.symm a2,Ne.symm a3,Ne.symm a4,b1,b2,b3,c1',c2',d1',bP pl.isList hz (by simp),bP pl.isList hTO (by simp),bP pl.isList e1 n1,bP pl.isList e2 n2,
   bP pl2.isList hz (by simp),bP pl2.isList hTO (by simp),bP pl2.isList e1 n1,bP pl2.isList e2 n2⟩
  have hl:=rv.length
  have hl2:=rv2.length
  have hend':its.toArray[i]?=none∨its2.toArray[i]?=none:=by
   rcases hend with h | h
   ·
    exact .inl (by simp; omega)
   ·
    exact .inr (by simp; omega)
  refine wpAny_pyNext_zip_end (I.ok.hd hc) D hz hTI hTO h1 h2 pl.isList pl2.isList hend' fun h' hk=>⟨rfl,?_⟩
  exact I.turnedL (t':=s.toks) (fp:=[z,TI,TO,i1,i2]) (fun b o hb e=>hk b o (fun z=>hb (by simp [z])) (fun z=>hb (by simp [z])) (fun z=>hb (by simp [z])) (fun z=>hb (by simp [z])) e) hf
 self:=fun _ _ _ _ _ st h=>wpAny_pyIter_zip st.1 h
def zipD (xs ys:List D):List D:=(xs.zip ys).map fun p=>.tup [p.1,p.2]
theorem gives_zip {K:PySem.W.Frag} {H:Hp} {a b:Addr} {vs ws:List V} {xs ys:List D} (h:SqZ K H a vs) (r:Reps K H vs xs) (h2:SqZ K H b ws) (r2:Reps K H ws ys):Gives K H (Itz K a b) (zipD xs ys):=fun H' p=>by
 have h':=(h.pres p).l
 have h2':=(h2.pres p).l
 have hlen:(zipD xs ys).length=min vs.length ws.length:=by rw [r.length,r2.length]; simp [zipD]
 refine ⟨fun i x e=>?_,⟨vs,ws,h',h2',by rw [hlen]; omega⟩⟩
 have hi:i < min vs.length ws.length:=by rw [← hlen]; exact (List.getElem?_eq_some_iff.mp e).1
 have hi2:i < xs.length:=by rw [← r.length]; omega
 have hi3:i < ys.length:=by rw [← r2.length]; omega
 have ex:x=.tup [xs[i],ys[i]]:=by
  have:(zipD xs ys)[i]?=some (.tup [xs[i],ys[i]]):=by simp [zipD,hi2,hi3,List.getElem?_zip_eq_some]
  rw [this] at e
  exact (Option.some.inj e).symm
 obtain ⟨v,ev,rv⟩:=r.get (i:=i) (List.getElem?_eq_getElem hi2)
 obtain ⟨v2,ev2,rv2⟩:=r2.get (i:=i) (List.getElem?_eq_getElem hi3)
 refine ⟨⟨vs,ws,v,v2,h',h2',ev,ev2⟩,fun w H2 ⟨q,y,y2,e1,e2,e3,e4,e5⟩=>?_⟩
 have e6:=e4 vs h'
 have e7:=e5 ws h2'
 rw [ev] at e6
 rw [ev2] at e7
 cases e6
 cases e7
 subst e1 e3 ex
 refine ⟨.inr ⟨_,_,e2,rfl⟩,.tup (.inl (.inl (bT ..))) (.cons ((rv.pres p).new e2) (.cons ((rv2.pres p).new e2) .nil))⟩
def zipK (d d2:D) (k:List D→Prop):Prop:=match d,d2 with
 | .lst xs,.lst ys=>k (zipD xs ys)
 | _,_=>False
def wZip (t u:W L):W (List D):=fun ρ post=>t ρ fun r ρ1=>toD r fun d=>u ρ1 fun r2 ρ2=>toD r2 fun d2=>zipK d d2 fun zs=>post zs ρ2
theorem pil_zip {k:Nat} {t u:W L} (hg:Gl X "zip") (hm:X.mg "zip"=none) (ha:PL X a t) (hb:PL X b u) (hs:starEach [a,b] X.env=[(false,eval a X.env),(false,eval b X.env)]:=by rfl) (hs2:starEach [b] X.env=[(false,eval b X.env)]:=by rfl) :
  PIL X (.Tuple es k apos) (.Call (.Name "zip" p) [a,b] [] pos) (wZip t u):=by
 intro pins s σ H Pr ρ post I E h
 refine Call_ (ld_blt I hg hm boot_zip (PyProof.Rows.callWith_type1 (thn (ab (am ha) (ab (am hb) ae hs2) (by rw [hs,hs2]) pos pins s σ H Pr ρ (fun ls ρ1=>match ls with
  | [.d d,.d d2]=>zipK d d2 fun zs=>post zs ρ1
  | _=>False) I E ?_) fun us s1 ⟨vs,H1,ls,ρ1,I1,r1,hl,hb,E1,_,q1⟩=>?_) (by rw [hs,hs2]) (by rw [hs2]; rfl)))
 ·
  show t ρ _
  have e:(fun r ρ1=>toD r fun d=>u ρ1 fun r2 ρ2=>toD r2 fun d2=>zipK d d2 fun zs=>post zs ρ2)
    = (fun r ρ1=>toD r fun x=>aVal (wFrz u) aNil ρ1 fun xs ρ2=>match L.d x::xs with | [.d d,.d d2]=>zipK d d2 fun zs=>post zs ρ2 | _=>False):=by
   funext r ρ1
   cases r with
   | un=>rfl
   | d d=>rfl
   | own a xs=>rfl
   | bx b ls =>
    show cy (bC (.bx b ls)) _=cy (bC (.bx b ls)) _
    cases bC (.bx b ls) <;> rfl
  rw [← e]
  exact h
 ·
  dsimp only at q1
  split at q1
  ·
   rename_i d d2
   unfold zipK at q1
   split at q1
   rotate_left
   ·
    exact q1.elim
   rename_i xs ys
   match vs,hl with
   | [v,v2],_ =>
    obtain ⟨_,e1,p1⟩:=REnv.head_d (σ:=some v2::σ) (ρ:=.d (.lst ys)::ρ1) E1
    cases e1
    obtain ⟨_,e1,p2⟩:=REnv.head_d (σ:=σ) (ρ:=ρ1) (REnv.tail (σ:=some v2::σ) (ρ:=.d (.lst ys)::ρ1) E1)
    cases e1
    cases p1 with
    | lst hz rs =>
     cases p2 with
     | lst hz2 rs2 =>
      obtain ⟨u1,u2,rfl,ru,ru2⟩:=r1.two
      cases ru
      cases ru2
      obtain ⟨its,rv,pl,_⟩:=I1.list hz.l
      obtain ⟨its2,rv2,pl2,_⟩:=I1.list hz2.l
      refine call_zip_2 pl.isList pl2.isList fun h' hZ hTI hTO hI1 hI2 hsz hk=>?_
      refine wpAny_pyIter_zip (s:={ s1 with heap:=h' }) hZ ?_
      have E1':REnv X.K Pr H1 (some _::some _::σ) (.d _::.d _::ρ1):=E1
      have E2:REnv X.K Pr H1 σ ρ1:=E1'.tail.tail
      refine ⟨s1.heap.objs.size+4,[s1.heap.objs.size+4,s1.heap.objs.size+2,s1.heap.objs.size+3,s1.heap.objs.size,s1.heap.objs.size+1],_,_,H1,_,ρ1,rfl,I1.kept (t':=s1.toks) hk,turn_zip _ _ _ _ _ _ _ (by simp),⟨hZ,hTI,⟨_,_,hTO⟩,hI1,hI2⟩,fun b hb=>?_,E2,gives_zip hz rs hz2 rs2,q1⟩
      have hb':s1.heap.objs.size≤b:=by
       simp only [List.mem_cons,List.not_mem_nil,or_false] at hb
       rcases hb with rfl | rfl | rfl | rfl | rfl
       ·
        exact Nat.le_add_right _ _
       ·
        exact Nat.le_add_right _ _
       ·
        exact Nat.le_add_right _ _
       ·
        exact Nat.le_refl _
       ·
        exact Nat.le_add_right _ _
      exact I1.fpOk hb' (I1.hok.fresh hb')
  ·
   exact q1.elim
end
end L2
namespace L2
open PySem PySem.Spec PyProof.Rows PySem.Builtin.Str
section
variable {X:Cx} {e a b c:Expr} {es rest:List Expr} {pos p p2 apos cpos:Pos} {ta tb tc te:W L} {x y:Str}
def PTcs (X:Cx) (es:List Expr) (n:Nat) (is:List Nat):Prop:=∃ gg:TGs,PGs X es gg∧es.length=is.length∧∀ vs σ H Pr ρ xs k,σ.length=X.N.length→REnv X.K Pr H σ ρ→Reps X.K H vs xs→ej is xs ρ k→gg vs σ H fun σ' H'=>H'=H∧σ'.drop n=σ.drop n∧∃ ρ',REnv X.K Pr H σ' ρ'∧k ρ'
theorem tcs_nil {n:Nat}:PTcs X [] n []:=⟨_,pgs_nil,rfl,fun vs σ H Pr ρ xs k hl E r h=>by
 cases r with
 | nil=>exact ⟨rfl,rfl,rfl,ρ,E,h⟩
 | cons _ _=>exact h.elim⟩
theorem bU {i n:Nat} {is:List Nat} {x:Str} (hn:i < n) (hN:X.N.Nodup) (hi:X.N[i]?=some x) (hx:Loc X.env.scope x) (hr:PTcs X es n is) (hf:X.fn x=true∨X.env.scope.names.lookup x=some .local:=by first | exact .inl rfl | exact .inr rfl | assumption)
  (hs:(assignEach (.Name x pos::es) X.env).map (·.2)=assign (.Name x pos) X.env::(assignEach es X.env).map (·.2):=by rfl):PTcs X (.Name x pos::es) n (i::is):=by
 obtain ⟨gg,hg,hlen,q⟩:=hr
 refine ⟨_,pgs_cons (pg_name hN hi hx hf) hg hs,by simp [hlen],fun vs σ H Pr ρ xs k hl E r h=>?_⟩
 cases r with
 | nil=>exact h.elim
 | cons r0 t =>
  refine ⟨_,_,rfl,?_⟩
  have:=q _ (σ.set i (some _)) H Pr _ _ k (by simpa using hl) ((E.cons_d r0).store (by rw [hl]; exact (List.getElem?_eq_some_iff.mp hi).1)) t h
  rw [List.drop_set_of_lt hn] at this
  exact this
theorem tc_tup {is:List Nat} {k n:Nat} (hc:X.calm=true) (h:PTcs X es n is) (hn:(assignEach es X.env).length=is.length:=by rfl) (hst:(assignEach es X.env).findIdx? (·.1)=none:=by rfl):PTc X (.Tuple es k pos) n (dj is):=by
 obtain ⟨gg,hg,hlen,q⟩:=h
 refine ⟨_,pg_tup hc hg hn hst,fun v σ H Pr ρ x k hl E r h=>?_⟩
 cases r with
 | tup hs rs=>exact ⟨_,_,rfl,hs,by rw [rs.length]; exact tgNames_len h,q _ σ H Pr ρ _ k hl E rs h⟩
 | _=>exact h.elim
def wExt (i:Nat) (te:W L):W L:=fun ρ post=>ownV i ρ fun _ _=>te ρ fun r ρ1=>match r with
 | .own _ ys=>ownV i ρ1 fun a xs=>xs.length+ys.length≤sizeLine∧post (.d .non) (ρ1.set i (.own a (xs++ys)))
 | _=>False
theorem pl_extend (i:Nat) (he:PL X e te) (hN:X.N[i]?=some x:=by rfl) (hv:Vis X.env.scope x:=by first | exact Or.inl rfl | exact Or.inr (Or.inl rfl) | exact Or.inr (Or.inr rfl)) (hd:(x == ("__debug__" : Str))=false:=by decide)
  (hcd:(x == ("__classdict__" : Str))=false:=by decide) (hs1:starEach [e] X.env=[(false,eval e X.env)]:=by rfl) (hbase:attributeBase (.Name x p) "extend" X.env (eval (.Name x p) X.env)=eval (.Name x p) X.env:=by rfl)
  (hfew:((backTo cpos (starEach [e] X.env)).all (fun x=>!x.1) && (backToKw cpos (keywordEach [] X.env)).all (fun x=>x.1.isSome)
   && decide (([e]).length+([]:List Keyword).length+(if ([]:List Keyword).isEmpty then 0 else 1) < 30))=true:=by rfl)
  (hline:(apos.endLine == cpos.line)=true:=by rfl) (hplain:(backTo cpos (starEach ([]:List Expr) X.env)).any (·.1)=false:=by rfl) :
  PL X (.Call (.Attribute (.Name x p) "extend" apos) [e] [] cpos) (wExt i te):=by
 refine PL.of (pe_bm PySem.F.plainAttrs_list PySem.F.slot_list_extend PySem.F.type_list_extend mt_extend (dR hN hv hd hcd) (dh he.pe pa_nil hs1) (hbase:=hbase) (hfew:=hfew) (hline:=hline) (hs:=hs1) (hplain:=hplain)) fun σ H Pr ρ post E h=>?_
 obtain ⟨l,xs0,q0,h⟩:=dm h
 obtain ⟨hσ,vs0,hl0,_⟩:=E.ownAt q0
 refine ⟨.ref l,hσ,.inl ⟨rfl,vs0,SqL.of hl0⟩,Pr,ρ,fun r ρ1=>match r with
  | .own _ ys=>ownV i ρ1 fun a xs=>xs.length+ys.length≤sizeLine∧post (.d .non) (ρ1.set i (.own a (xs++ys)))
  | _=>False,E,h,fun v H' r ρ' E' pp=>?_⟩
 cases r with
 | own bb ys =>
  obtain ⟨l',xs,q,hlen,pp⟩:=dm pp
  obtain ⟨hσ',vs,hl,r⟩:=E'.tail.ownAt q
  rw [hσ] at hσ'
  cases hσ'
  have sl:=E'.sl
  cases sl with
  | cons q0 t =>
   obtain ⟨e1,ws,hb,rw'⟩:=q0
   cases e1
   exact ⟨l,bb,vs,ws,rfl,rfl,hl,hb,by rw [r.length,rw'.length]; exact hlen,_,_,(E'.tail.updOwn q (r.append rw')).cons_d .non,pp⟩
 | _=>exact pp.elim
def wPop (i:Nat):W L:=fun ρ post=>ownV i ρ fun a xs=>∃ y,xs[xs.length - 1]?=some y∧post (.d y) (ρ.set i (.own a xs.dropLast))
theorem Reps.dropLast {K:PySem.W.Frag} {H:Hp}:∀ {vs:List V} {ds:List D},Reps K H vs ds→Reps K H vs.dropLast ds.dropLast
 | _,_,.nil=>.nil
 | _,_,.cons r .nil=>.nil
 | _,_,.cons r (.cons q t)=>.cons r (Reps.dropLast (.cons q t))
theorem pl_pop (i:Nat) (hN:X.N[i]?=some x:=by rfl) (hv:Vis X.env.scope x:=by first | exact Or.inl rfl | exact Or.inr (Or.inl rfl) | exact Or.inr (Or.inr rfl)) (hd:(x == ("__debug__" : Str))=false:=by decide)
  (hcd:(x == ("__classdict__" : Str))=false:=by decide) (hbase:attributeBase (.Name x p) "pop" X.env (eval (.Name x p) X.env)=eval (.Name x p) X.env:=by rfl)
  (hline:(apos.endLine == cpos.line)=true:=by rfl) :
  PL X (.Call (.Attribute (.Name x p) "pop" apos) [] [] cpos) (wPop i):=by
 refine PL.of (pe_bm0 PySem.F.plainAttrs_list PySem.F.slot_list_pop PySem.F.type_list_pop mt_pop (dR hN hv hd hcd) (hbase:=hbase) (hline:=hline)) fun σ H Pr ρ post E h=>?_
 obtain ⟨l,xs,q,y,hy,h⟩:=dm h
 obtain ⟨hσ,vs,hl,r⟩:=E.ownAt q
 obtain ⟨v,hv',rv⟩:=r.get hy
 have E2:=E.updOwn q r.dropLast
 refine ⟨.ref l,hσ,.inl ⟨rfl,vs,SqL.of hl⟩,l,vs,v,rfl,rfl,hl,by rw [r.length]; exact hv',_,_,E2.cons_d (rv.pres fun b u hp e=>?_),h⟩
 by_cases hb:b=l
 ·
  subst hb
  rw [hl] at e
  cases e
  exact hp.elim
 ·
  rw [aI hb]; exact e
end
end L2
namespace L2
open PySem PySem.Spec PyProof.Rows
mutual
def noL:D→Bool
 | .lst _=>false
 | .dct _=>false
 | .tup xs=>noLs xs
 | _=>true
def noLs:List D→Bool
 | []=>true
 | x::xs=>noL x && noLs xs
end
mutual
def noLr:L→Bool
 | .un=>true
 | .d x=>noL x
 | .own _ xs=>noLs xs
 | .bx _ ls=>noLrs ls
def noLrs:List L→Bool
 | []=>true
 | l::ls=>noLr l && noLrs ls
end
theorem noLr_un:noLr .un=true:=by simp [noLr]
theorem noLr_d (x:D):noLr (.d x)=noL x:=by simp [noLr]
theorem noLr_own (a:Addr) (xs:List D):noLr (.own a xs)=noLs xs:=by simp [noLr]
theorem noLr_bx (a:Option Addr) (ls:List L):noLr (.bx a ls)=noLrs ls:=by simp [noLr]
theorem noLrs_nil:noLrs []=true:=by simp [noLrs]
theorem noLrs_cons (l:L) (ls:List L):noLrs (l::ls)=(noLr l && noLrs ls):=by simp [noLrs]
section
variable {X:Cx} {pins:List (Addr×Obj)} {σ:St} {H:Hp} {s:Shared}
end
def Thawed (H' H2:Hp) (S:List Addr):Prop:=(∀ b,b∉S→H2 b=H' b)∧(∀ a∈S,∃ o vs,H' a=some (.frz o (.lst vs))∧H2 a=some (.lst vs))
section
variable {K:PySem.W.Frag} {H' H2:Hp} {S:List Addr}
theorem Thawed.lst (T:Thawed H' H2 S) {a:Addr} {vs:List V} (h:H' a=some (.lst vs)):a∉S∧H2 a=some (.lst vs):=by
 have n:a∉S:=fun z=>by
  obtain ⟨o,us,e,_⟩:=T.2 a z
  rw [h] at e; cases e
 exact ⟨n,(T.1 a n).trans h⟩
theorem Thawed.tup (T:Thawed H' H2 S) {a:Addr} {vs:List V} (h:SqT K H' a vs):SqT K H2 a vs:=by
 rcases h with (e | ⟨u,e⟩) | e
 ·
  exact .inl (.inl (by rw [T.1 _ fun z=>by obtain ⟨o,vs,e1,_⟩:=T.2 _ z; rw [e1] at e; cases e]; exact e))
 ·
  exact .inl (.inr ⟨u,by rw [T.1 _ fun z=>by obtain ⟨o,vs,e1,_⟩:=T.2 _ z; rw [e1] at e; cases e]; exact e⟩)
 ·
  exact .inr e
end
def flatL:L→Bool
 | .d _=>true
 | l=>noLr l
theorem flatL_un:flatL .un=true:=by simp [flatL,noLr]
theorem flatL_d (x:D):flatL (.d x)=true:=rfl
theorem flatL_own (a:Addr) (xs:List D):flatL (.own a xs)=noLs xs:=by simp [flatL,noLr]
theorem flatL_bx (a:Option Addr) (ls:List L):flatL (.bx a ls)=noLrs ls:=by simp [flatL,noLr]
def fC (i:Nat) (ρ:Ev):Bool:=(ρ.set i .un).all flatL
def pkW (o:Option L) (i:Nat) (t:W L) (ρ:Ev) (post:L→Ev→Prop):Prop:=match o with
 | some (.own _ xs)=>fC i ρ=true∧t (ρ.set i (.d (.lst xs))) fun r ρ'=>noLr r=true∧ρ'=ρ.set i (.d (.lst xs))∧post r ρ
 | some (.bx b ls)=>fC i ρ=true∧toDB b ls fun x=>t (ρ.set i (.d x)) fun r ρ'=>noLr r=true∧ρ'=ρ.set i (.d x)∧post r ρ
 | _=>t ρ post
def wPeek (i:Nat) (t:W L):W L:=fun ρ post=>pkW ρ[i]? i t ρ post
theorem pkW_own (a:Addr) (xs:List D) (i:Nat) (t:W L) (ρ:Ev) (post:L→Ev→Prop):pkW (some (.own a xs)) i t ρ post=(fC i ρ=true∧t (ρ.set i (.d (.lst xs))) fun r ρ'=>noLr r=true∧ρ'=ρ.set i (.d (.lst xs))∧post r ρ):=(rfl)
theorem pkW_bx (b:Option Addr) (ls:List L) (i:Nat) (t:W L) (ρ:Ev) (post:L→Ev→Prop):pkW (some (.bx b ls)) i t ρ post=(fC i ρ=true∧toDB b ls fun x=>t (ρ.set i (.d x)) fun r ρ'=>noLr r=true∧ρ'=ρ.set i (.d x)∧post r ρ):=(rfl)
theorem pkW_d (x:D) (i:Nat) (t:W L) (ρ:Ev) (post:L→Ev→Prop):pkW (some (.d x)) i t ρ post=t ρ post:=(rfl)
def pkB (o:Option L) (i:Nat) (t:W Bool) (ρ:Ev) (post:Bool→Ev→Prop):Prop:=match o with
 | some (.own _ xs)=>fC i ρ=true∧t (ρ.set i (.d (.lst xs))) fun r ρ'=>ρ'=ρ.set i (.d (.lst xs))∧post r ρ
 | some (.bx b ls)=>fC i ρ=true∧toDB b ls fun x=>t (ρ.set i (.d x)) fun r ρ'=>ρ'=ρ.set i (.d x)∧post r ρ
 | _=>t ρ post
def wPeekB (i:Nat) (t:W Bool):W Bool:=fun ρ post=>pkB ρ[i]? i t ρ post
theorem pkB_own (a:Addr) (xs:List D) (i:Nat) (t:W Bool) (ρ:Ev) (post:Bool→Ev→Prop):pkB (some (.own a xs)) i t ρ post=(fC i ρ=true∧t (ρ.set i (.d (.lst xs))) fun r ρ'=>ρ'=ρ.set i (.d (.lst xs))∧post r ρ):=(rfl)
theorem pkB_bx (b:Option Addr) (ls:List L) (i:Nat) (t:W Bool) (ρ:Ev) (post:Bool→Ev→Prop):pkB (some (.bx b ls)) i t ρ post=(fC i ρ=true∧toDB b ls fun x=>t (ρ.set i (.d x)) fun r ρ'=>ρ'=ρ.set i (.d x)∧post r ρ):=(rfl)
theorem pkB_d (x:D) (i:Nat) (t:W Bool) (ρ:Ev) (post:Bool→Ev→Prop):pkB (some (.d x)) i t ρ post=t ρ post:=(rfl)
end L2
namespace L2
open PySem PySem.Spec PyProof.Rows
variable {X:Cx}
def opInS (neg:Bool):Op2:=fun x y k=>bf x∧(toP x).depth≤62∧fA y fun ys=>(∀ z∈ys,bf z)∧k (.d (.bl (if neg then !anyEq x ys else anyEq x ys)))
open Classical in
noncomputable def eS (h:Heap) (dx:PyData) (u:Value):Bool:=decide (∃ d as,Reads h u d as∧d.canLay0=true∧PyData.eqv d dx=true)
open Classical in
theorem eS_eq {h:Heap} {dx d:PyData} {u:Value} {as:List Addr} (r:Reads h u d as) (hc:d.canLay0=true):eS h dx u=PyData.eqv d dx:=by
 unfold eS
 cases e:PyData.eqv d dx
 ·
  refine decide_eq_false ?_
  rintro ⟨d',as',r',hc',e'⟩
  have:=SeqAt.Reads.unique _ _ _ _ _ hc r r'
  subst this
  rw [e] at e'
  cases e'
 ·
  exact decide_eq_true ⟨d,as,r,hc,e⟩
theorem mem_eqS {A:Around} {s:Shared} {v:Value} {dx:D} {as:List Addr} (rx:Reads s.heap v (toP dx) as) (hx:bf dx) (hd:(toP dx).depth≤62) (hu:A.units+64 < cLine):∀ {ds:List D} {us:List Value} {bs:List Addr},ReadsAll s.heap us (toPs ds) bs→(∀ z∈ds,bf z)→(∀ u∈us,SeqAt.EqAt A.in1 s u v (eS s.heap (toP dx) u))∧us.any (eS s.heap (toP dx))=anyEq dx ds
 | [],_,_,r,_=>by cases r; exact ⟨fun u hm=>by simp at hm,rfl⟩
 | d::ds,_,_,r,hs=>by
  cases r with
  | cons r0 rs =>
   obtain ⟨i1,i2⟩:=mem_eqS (A:=A) rx hx hd hu rs fun z hz=>hs z (List.mem_cons_of_mem _ hz)
   have h0:=hs d List.mem_cons_self
   have e0:=eS_eq (dx:=toP dx) r0 (SeqAt.canLay_of_shaped h0)
   refine ⟨fun u hu'=>?_,?_⟩
   ·
    rcases List.mem_cons.mp hu' with rfl | hu'
    ·
     rw [e0]
     refine SeqAt.eqAt_reads _ _ _ _ _ _ _ _ r0 rx (SeqAt.canLay_of_shaped h0) (SeqAt.canLay_of_shaped hx) ?_
     have:min (toP d).depth (toP dx).depth≤(toP dx).depth:=Nat.min_le_right _ _
     simp only [Around.in1_units]
     omega
    ·
     exact i1 u hu'
   ·
    rw [List.any_cons,e0,i2]
    rfl
theorem canLay_all:∀ {ds:List D},(∀ z∈ds,bf z)→PyData.canLayAll0 (toPs ds)=true
 | [],_=>rfl
 | d::ds,h=>by
  show ((toP d).canLay0 && PyData.canLayAll0 (toPs ds))=true
  rw [SeqAt.canLay_of_shaped (h d List.mem_cons_self),canLay_all fun z hz=>h z (List.mem_cons_of_mem _ hz)]
  rfl
theorem od_notInS (hu:X.A.units+64 < cLine):OpD X (compareOp .NotIn) (opInS true):=by
 intro pins s σ H Pr ρ x y v u dx dy post I rx ry E px py ⟨h1,h2,h⟩
 obtain ⟨as,ra⟩:=reads_of I dx x v rx px (SeqAt.canLay_of_shaped h1)
 cases py with
 | lst hz rs =>
  obtain ⟨hs,ho⟩:=h
  cases ry
  obtain ⟨its,r,pl,hz'⟩:=I.list hz.l
  obtain ⟨bs,rb⟩:=dl I _ _ _ r rs (canLay_all hs)
  obtain ⟨i1,i2⟩:=mem_eqS (A:=X.A) ra h1 h2 hu rb hs
  refine SeqAt.notIn_listAt (eS s.heap (toP dx)) pl.isList (fun w hw=>i1 w (by simpa using hw)) ⟨.bl _,H,_,I,rfl,E.cons_d (.bl _),?_⟩
  rw [show its.toArray.any (eS s.heap (toP dx))=its.any (eS s.heap (toP dx)) by simp,i2]
  exact ho
 | tup hz rs =>
  obtain ⟨hs,ho⟩:=h
  cases ry
  obtain ⟨its,r,pl,hz'⟩:=I.tuple hz
  obtain ⟨bs,rb⟩:=dl I _ _ _ r rs (canLay_all hs)
  obtain ⟨i1,i2⟩:=mem_eqS (A:=X.A) ra h1 h2 hu rb hs
  refine SeqAt.notIn_tupleAt (eS s.heap (toP dx)) pl (fun w hw=>i1 w (by simpa using hw)) ⟨.bl _,H,_,I,rfl,E.cons_d (.bl _),?_⟩
  rw [show its.toArray.any (eS s.heap (toP dx))=its.any (eS s.heap (toP dx)) by simp,i2]
  exact ho
 | _=>exact h.elim
end L2
namespace L2
open PySem PySem.Spec PyProof.Rows
variable {X:Cx}
theorem ints_are:∀ {ns:List Int} {us:List Value},Vals (ns.map V.int) us→IntsAre us ns
 | [],_,r=>by cases r; exact .nil
 | n::ns,_,r=>by
  cases r with
  | cons r0 rs =>
   obtain ⟨t,rfl⟩:=r0
   exact .cons n t (ints_are rs)
theorem call_sum_seq (hc:X.calm=true):CallR X (.builtin "sum") (fun xs H Q=>∃ (p:Addr) (ns:List Int),xs=[.ref p]∧SqL X.K H p (ns.map V.int)∧Q (.int ns.sum) H):=by
 intro pins s σ H xs us Q I r h
 obtain ⟨p,ns,rfl,hq,q⟩:=h
 obtain ⟨u,rfl,rx⟩:=vals1 r
 cases rx
 obtain ⟨its,r',pl,hz⟩:=I.list hq
 have hi:=ints_are r'
 obtain ⟨xs,hx⟩:=hi.allInts.items
 have hl':s.heap.IsList p (intItems xs):=hx ▸ pl.isList
 refine sum_intListG (I.ok.hd hc) hl' fun h' tk t' hk=>?_
 have e1:ns=xs.toList.map (·.1):=by
  rw [← nums_intItems,← hx]
  exact (show numsOf its.toArray.toList=ns from hi.numsOf).symm
 have e2:preSum (numAt xs) xs.size=ns.sum:=by
  rw [preSum_eq,List.take_of_length_le (by simp),e1]
 rw [e2]
 exact ⟨.int ns.sum,H,I.kept hk,⟨_,rfl⟩,q⟩
theorem ints_of_reps {K:PySem.W.Frag} {H:Hp}:∀ {vs:List V} {ns:List Int},Reps K H vs (ns.map D.int)→vs=ns.map V.int
 | _,[],r=>by cases r; rfl
 | _,n::ns,r=>by
  cases r with
  | cons r0 rs =>
   cases r0
   rw [ints_of_reps rs]
   rfl
def opSum:OpN:=fun ds k=>∃ ns:List Int,ds=[.lst (ns.map D.int)]∧k (.d (.int ns.sum))
theorem cd_sum (hc:X.calm=true):eX X (.builtin "sum") opSum:=eX.of (call_sum_seq hc) fun σ H Pr ρ vs ds post E ps ⟨ns,e,h⟩=>by
 subst e
 obtain ⟨v,rfl,r⟩:=reps1 ps
 cases r with
 | lst hz rs =>
  have:=ints_of_reps rs
  subst this
  exact ⟨_,ns,rfl,hz.l,_,E.cons_d (.int _),h⟩
end L2
namespace L2
open PySem PySem.Spec PyProof.Rows
variable {X:Cx}
end L2
namespace L2
open PySem PySem.Spec PyProof.Rows
section
variable {X:Cx} {e a b c:Expr} {es rest:List Expr} {pos p p2 apos cpos:Pos} {ta tb tc te:W L} {x y:Str}
def wLinks:List (Op2×W L)→D→W L
 | [],_=>fun _ _=>False
 | [(o,t)],dx=>fun ρ post=>t ρ fun y ρ1=>toD y fun dy=>o dx dy fun r=>isBl r fun k=>post (.d (.bl k)) ρ1
 | (o,t)::q::r,dx=>fun ρ post=>t ρ fun y ρ1=>toD y fun dy=>o dx dy fun z=>isBl z fun k=>if k=true then wLinks (q::r) dy ρ1 post else post (.d (.bl false)) ρ1
def wChainN (ta:W L) (ls:List (Op2×W L)):W L:=fun ρ post=>ta ρ fun x ρ1=>toD x fun dx=>wLinks ls dx ρ1 post
inductive Links (X:Cx):List CmpOp→List Expr→List (Op2×W L)→Prop where
 | one {op:CmpOp} {e:Expr} {o:Op2} {t:W L} (ho:OpD X (compareOp op) o) (h:PL X e t):Links X [op] [e] [(o,t)]
 | cons {op:CmpOp} {e:Expr} {o:Op2} {t:W L} {ops:List CmpOp} {es:List Expr} {ls:List (Op2×W L)} (ho:OpD X (compareOp op) o) (h:PL X e t) (r:Links X ops es ls):Links X (op::ops) (e::es) ((o,t)::ls)
theorem op_link {op:CmpOp} {o:Op2} {pins:List (Addr×Obj)} {s:Shared} {σ:St} {H Pr:Hp} {ρ:Ev} {v:V} {u:Value} {dx:D} {R:Bool→D→Ev→Prop} {t:W L} {Q:Value→Value→Shared→Prop} (ho:OpD X (compareOp op) o) (h:PL X e t)
  (I:Inv X pins σ H s) (rv:RelV v u) (E:REnv X.K Pr H (some v::σ) (.d dx::ρ)) (ht:t ρ fun y ρ1=>toD y fun dy=>o dx dy fun r=>isBl r fun k=>R k dy ρ1)
  (hQ:∀ u2 s3 w2 dy H3 ρ1 k,Inv X pins σ H3 s3→RelV w2 u2→REnv X.K Pr H3 (some w2::σ) (.d dy::ρ1)→R k dy ρ1→Q u2 (.bool k) s3) :
  wpAny (model X.prog X.w) X.A (eval e X.env) (fun b s₁=>wpAny (model X.prog X.w) X.A (compareOp op u b) (fun c s₂=>Q b c s₂) X.xe s₁) X.xe s:=by
 refine thn (h pins s σ H _ ρ _ I E.tail.wide ht) fun u2 s2 q=>?_
 obtain ⟨y,H2,dy,ρ2,I2,r2,E2,q2⟩:=EL.frz (post:=fun dy ρ1=>o dx dy fun r=>isBl r fun k=>R k dy ρ1) q
 have E3:REnv X.K Pr H2 (some y::some v::σ) (.d dy::.d dx::ρ2):=REnv.step (τ:=[some v]) (lam:=[.d dx]) (w:=[some y]) (μ:=[.d dy]) E rfl E2 rfl
 obtain ⟨_,e1,p1⟩:=E3.head_d
 obtain ⟨_,e2,p2⟩:=E3.tail.head_d
 cases e1
 cases e2
 have E4:REnv X.K Pr H2 σ ρ2:=E3.tail.tail
 have E5:REnv X.K Pr H2 (some y::σ) (.d dy::ρ2):=E4.cons_d p1
 have E5w:=E5
 refine thn (ho pins s2 σ H2 (a0 H2 ρ2) ρ2 v y u u2 dx dy _ I2 rv r2 E4.wide p2 p1 q2) fun w s3 ⟨z,H3,r,I3,rz,E6,pp⟩=>?_
 obtain ⟨k,rfl,pp⟩:=isBl_is pp
 obtain ⟨_,e3,p3⟩:=E6.head_d
 cases e3
 cases p3
 cases rz
 have P3:Pres H2 H3:=pres_of E4 E6.sub
 have E7:REnv X.K Pr H3 σ ρ2:=E4.narrow E6.tail
 exact hQ u2 s3 y dy H3 ρ2 k I3 r2 (E7.cons_d (p1.pres P3)) pp
theorem links_pl {ops:List CmpOp} {es:List Expr} {ls:List (Op2×W L)} (h:Links X ops es ls):∀ (pins:List (Addr×Obj)) (s:Shared) (σ:St) (H Pr:Hp) (ρ:Ev) (post:L→Ev→Prop) (v:V) (u:Value) (dx:D) (pos:Pos),Inv X pins σ H s→RelV v u→REnv X.K Pr H (some v::σ) (.d dx::ρ)→wLinks ls dx ρ post →
  wpAny (model X.prog X.w) X.A (compareChain pos u ops (evalEach es X.env)) (EL X pins σ Pr post) X.xe s:=by
 induction h with
 | one ho h =>
  intro pins s σ H Pr ρ post v u dx pos I rv E hl
  refine chain_last ?_
  exact op_link (R:=fun k _ ρ1=>post (.d (.bl k)) ρ1) (Q:=fun _ c s=>EL X pins σ Pr post c s) ho h I rv E hl fun u2 s3 w2 dy H3 ρ1 k I3 r3 E3 q=>⟨.bl k,H3,_,ρ1,I3,rfl,E3.tail.cons_d (.bl k),q⟩
 | @cons op e o t ops es ls ho h r ih =>
  intro pins s σ H Pr ρ post v u dx pos I rv E hl
  cases r with
  | one ho2 h2 =>
   refine chain_link (op_link (R:=fun k dy ρ1=>if k=true then wLinks [_] dy ρ1 post else post (.d (.bl false)) ρ1) (Q:=fun b c s=>wpAny (model X.prog X.w) X.A (truthy c) (fun t s₃=>if t then _ else EL X pins σ Pr post c s₃) X.xe s) ho h I rv E hl fun u2 s3 w2 dy H3 ρ1 k I3 r3 E3 q=>?_)
   refine wpAny_truthy_bool ?_
   cases k with
   | false=>exact ite_ff ⟨.bl false,H3,_,ρ1,I3,rfl,E3.tail.cons_d (.bl false),q⟩
   | true=>exact ite_tt (ih pins s3 σ H3 Pr ρ1 post w2 u2 dy pos I3 r3 E3 q)
  | cons ho2 h2 r2 =>
   cases r2 with
   | one ho3 h3 =>
    refine chain_link (op_link (R:=fun k dy ρ1=>if k=true then wLinks (_::_::_) dy ρ1 post else post (.d (.bl false)) ρ1) (Q:=fun b c s=>wpAny (model X.prog X.w) X.A (truthy c) (fun t s₃=>if t then _ else EL X pins σ Pr post c s₃) X.xe s) ho h I rv E hl fun u2 s3 w2 dy H3 ρ1 k I3 r3 E3 q=>?_)
    refine wpAny_truthy_bool ?_
    cases k with
    | false=>exact ite_ff ⟨.bl false,H3,_,ρ1,I3,rfl,E3.tail.cons_d (.bl false),q⟩
    | true=>exact ite_tt (ih pins s3 σ H3 Pr ρ1 post w2 u2 dy pos I3 r3 E3 q)
   | cons ho3 h3 r3 =>
    refine chain_link (op_link (R:=fun k dy ρ1=>if k=true then wLinks (_::_::_) dy ρ1 post else post (.d (.bl false)) ρ1) (Q:=fun b c s=>wpAny (model X.prog X.w) X.A (truthy c) (fun t s₃=>if t then _ else EL X pins σ Pr post c s₃) X.xe s) ho h I rv E hl fun u2 s3 w2 dy H3 ρ1 k I3 r3 E3 q=>?_)
    refine wpAny_truthy_bool ?_
    cases k with
    | false=>exact ite_ff ⟨.bl false,H3,_,ρ1,I3,rfl,E3.tail.cons_d (.bl false),q⟩
    | true=>exact ite_tt (ih pins s3 σ H3 Pr ρ1 post w2 u2 dy pos I3 r3 E3 q)
theorem pl_chainN {op op':CmpOp} {ops:List CmpOp} {r1 r2:Expr} {rs:List Expr} {ls:List (Op2×W L)} (ha:PL X a ta) (h:Links X (op::op'::ops) (r1::r2::rs) ls) (hm:lastMarks (op::op'::ops) (r1::r2::rs)=false:=by with_unfolding_all rfl):PL X (.Compare a (op::op'::ops) (r1::r2::rs) pos) (wChainN ta ls):=by
 intro pins s σ H Pr ρ post I E ht
 refine Compare_chain (thn (ha pins s σ H Pr ρ _ I E ht) fun u s1 q=>?_) hm
 obtain ⟨v,H1,dx,ρ1,I1,rv,E1,q1⟩:=EL.frz (post:=fun dx ρ1=>wLinks ls dx ρ1 post) q
 exact links_pl h pins s1 σ H1 Pr ρ1 post v u dx pos I1 rv E1 q1
def strLe (x y:Str):Bool:=!decide (y.cps.toList < x.cps.toList)
def opLe2:Op2:=fun x y k=>match x,y with
 | .int i,.int j=>k (.d (.bl (decide (i≤j))))
 | .str i,.str j=>k (.d (.bl (strLe i j)))
 | _,_=>False
theorem truth_bools {prog:Program} {w:World} {A:Around} {ks:List Bool} {us:List Value} (h:us=ks.map Value.bool):TruthOf prog w A (fun i v=>us.toArray[i]?=some v) (fun i=>ks.getD i true):=fun i v s Q E hv hQ=>by
 subst h
 rw [List.getElem?_toArray,List.getElem?_map] at hv
 cases q:ks[i]? with
 | none=>rw [q] at hv; cases hv
 | some k =>
  rw [q] at hv
  cases hv
  refine wpAny_truthy_bool ?_
  have:ks.getD i true=k:=by rw [List.getD_eq_getElem?_getD,q]; rfl
  have hQ':Q (ks.getD i true) s:=hQ
  rw [this] at hQ'
  exact hQ'
theorem range_all (ks:List Bool):(List.range ks.length).all (fun i=>ks.getD i true)=ks.all id:=by
 apply Bool.eq_iff_iff.mpr
 simp only [List.all_eq_true,List.mem_range,id]
 constructor
 ·
  intro h x hx
  obtain ⟨i,hi,e⟩:=List.getElem_of_mem hx
  have:=h i hi
  rw [List.getD_eq_getElem?_getD,List.getElem?_eq_getElem hi] at this
  simpa [e] using this
 ·
  intro h i hi
  rw [List.getD_eq_getElem?_getD,List.getElem?_eq_getElem hi]
  exact h _ (List.getElem_mem hi)
theorem vals_bools:∀ {ks:List Bool} {us:List Value},Vals (ks.map V.bl) us→us=ks.map Value.bool
 | [],_,.nil=>rfl
 | k::ks,_,.cons r t=>by
  have e:=vals_bools t
  subst e
  cases r
  rfl
theorem call_all_seq (hc:X.calm=true):CallR X (.builtin "all") (fun xs H Q=>∃ (p:Addr) (ks:List Bool),xs=[.ref p]∧SqL X.K H p (ks.map V.bl)∧Q (.bl (ks.all id)) H):=by
 intro pins s σ H xs us Q I r ⟨p,ks,e,hq,q⟩
 subst e
 obtain ⟨u,rfl,r1⟩:=vals1 r
 cases r1
 obtain ⟨its,rv,pl,hz⟩:=I.list hq
 have e:=vals_bools rv
 refine call_all_walk (wpAny_pyIter_list pl.isList ?_)
 have hne:p≠s.heap.objs.size:=fun z=>by
  obtain ⟨o,n,eo,_⟩:=pl
  have:=Heap.lt_size eo
  rw [z] at this
  exact absurd this (Nat.lt_irrefl _)
 refine ⟨s.heap.objs.size,_,_,_,_,_,(fun i=>ks.getD i true),rfl,Walks.list (A:=X.A.in1) (I.ok.hd hc) _ p hne its.toArray,⟨⟨_,Heap.get?_push_size _ rfl,rfl,rfl⟩,pl.isList.at fun o eo=>Heap.get?_push_of_some _ eo⟩,truth_bools e,fun h' tk hk=>?_⟩
 have hl:its.toArray.size=ks.length:=by rw [e]; simp
 rw [hl,range_all]
 refine ⟨.bl _,H,I.kept (h':=h') (t':=tk) fun b o eb=>hk b o (fun hm=>?_) (Heap.get?_push_of_some _ eb),rfl,q⟩
 have e2:b=s.heap.objs.size:=by simpa using hm
 have:=Heap.lt_size eb
 rw [e2] at this
 exact absurd this (Nat.lt_irrefl _)
theorem bools_of_reps {K:PySem.W.Frag} {H:Hp}:∀ {vs:List V} {ks:List Bool},Reps K H vs (ks.map D.bl)→vs=ks.map V.bl
 | [],[],_=>rfl
 | _::_,k::ks,.cons r t=>by
  cases r
  rw [bools_of_reps t]; rfl
 | [],_::_,r=>nomatch r
 | _::_,[],r=>nomatch r
def opAll:OpN:=fun ds k=>∃ ks:List Bool,ds=[.lst (ks.map D.bl)]∧k (.d (.bl (ks.all id)))
theorem cd_all (hc:X.calm=true):eX X (.builtin "all") opAll:=eX.of (call_all_seq hc) fun σ H Pr ρ vs ds post E ps ⟨ks,e,h⟩=>by
 subst e
 obtain ⟨v,rfl,r⟩:=reps1 ps
 cases r with
 | lst hz rs =>
  have e:=bools_of_reps rs
  subst e
  exact ⟨_,ks,rfl,hz.l,_,E.cons_d (.bl _),h⟩
end
end L2
set_option exponentiation.threshold 2000
namespace L2
open PySem PySem.Spec PyProof.Rows
section
variable {X:Cx} {e a b c tg:Expr} {es rest:List Expr} {pos p p2 apos cpos:Pos} {ta tb tc te:W L} {x y:Str}
def cntS (lo hi c:Int):Nat:=(Builtin.Range.rangeSize lo hi c).toNat
def rngS (lo c:Int) (n:Nat):List D:=(List.range n).map fun (i:Nat)=>.int (lo+(i:Int)*c)
def tinyI (j:Int):Prop:=-1000000≤j∧j < 1000000
def wRng3 (t u v:W L):W (List D):=fun ρ post=>t ρ fun r ρ1=>eU r fun i=>u ρ1 fun r ρ2=>eU r fun j=>v ρ2 fun r ρ3=>eU r fun c=>tinyI i∧tinyI j∧0 < c∧c < 1000∧post (rngS i c (cntS i j c)) ρ3
mutual
def shortD:D→Bool
 | .int i=>decide (i.natAbs < 2 ^ 1900)
 | .tup xs=>shortDs xs
 | .lst xs=>shortDs xs
 | _=>true
def shortDs:List D→Bool
 | []=>true
 | x::xs=>shortD x && shortDs xs
end
theorem two1900:(2:Nat) ^ 1900 < 10 ^ 600:=by decide +kernel
theorem int_short {i:Int} (h:i.natAbs < 2 ^ 1900):(PyData.shown (.int i)).length≤601:=by
 have e:=PySem.int_text_length_le10 (k:=600) (by decide) (Nat.lt_trans h two1900)
 show (Str.ofString (toString i)).length≤601
 rw [PySem.ofString_length]; exact e
mutual
theorem short_is:∀ d:D,shortD d=true→(toP d).intsShort 601=true∧(toP d).showable=true
 | .non,_=>⟨rfl,rfl⟩
 | .bl _,_=>⟨rfl,rfl⟩
 | .str _,_=>⟨rfl,rfl⟩
 | .dct _,_=>⟨rfl,rfl⟩
 | .int i,h=>by
  have h':i.natAbs < 2 ^ 1900:=by simpa only [shortD,decide_eq_true_eq] using h
  refine ⟨by simp only [toP,PyData.intsShort,decide_eq_true_eq]; exact int_short h',?_⟩
  simp only [toP,PyData.showable,decide_eq_true_eq]
  by_cases h0:i.natAbs=0
  ·
   rw [h0]; decide
  ·
   exact (Nat.log2_lt h0).mpr (Nat.lt_of_lt_of_le h' (Nat.pow_le_pow_right (by decide) (by decide)))
 | .tup xs,h=>by
  obtain ⟨h1,h2⟩:=short_iss xs (by simpa only [shortD] using h)
  exact ⟨by simpa only [toP,PyData.intsShort] using h1,by simpa only [toP,PyData.showable] using h2⟩
 | .lst xs,h=>by
  obtain ⟨h1,h2⟩:=short_iss xs (by simpa only [shortD] using h)
  exact ⟨by simpa only [toP,PyData.intsShort] using h1,by simpa only [toP,PyData.showable] using h2⟩
theorem short_iss:∀ ds:List D,shortDs ds=true→PyData.intsShortAll 601 (toPs ds)=true∧PyData.showableAll (toPs ds)=true
 | [],_=>⟨rfl,rfl⟩
 | d::ds,h=>by
  simp only [shortDs,Bool.and_eq_true] at h
  obtain ⟨h1,h2⟩:=short_is d h.1
  obtain ⟨h3,h4⟩:=short_iss ds h.2
  exact ⟨by simp only [toPs,PyData.intsShortAll,h1,h3,Bool.and_self],by simp only [toPs,PyData.showableAll,h2,h4,Bool.and_self]⟩
end
structure ReprOk (d:D):Prop where
 ok:okD 40 d=true
 sh:shortD d=true
 wt:(toP d).weight≤20000
theorem ReprOk.len {d:D} (h:ReprOk d):(toP d).shown.length≤sizeLine:=by
 have h1:=PyData.shown_le 601 (by decide) (toP d) (PyData.leavesShort_of_canLay0 601 _ (okD_lay 40 d h.ok).1 (short_is d h.sh).1)
 have h2:=h.wt
 have e:sizeLine=16777216:=by decide
 rw [e]
 omega
def wRep (ta tb:W L):W L:=fun ρ post=>ta ρ fun r ρ1=>match r with
 | .own _ xs=>tb ρ1 fun r2 ρ2=>eU r2 fun j=>(0≤j∧j≤100000)∧xs.length*j.toNat≤sizeLine∧∀ p,post (.own p (List.replicate j.toNat xs).flatten) ρ2
 | _=>False
theorem Reps.rep {K:PySem.W.Frag} {H:Hp} {vs:List V} {ds:List D} (r:Reps K H vs ds):∀ k:Nat,Reps K H (List.replicate k vs).flatten (List.replicate k ds).flatten
 | 0=>.nil
 | k+1=>by
  rw [List.replicate_succ,List.replicate_succ,List.flatten_cons,List.flatten_cons]
  exact r.append (Reps.rep r k)
def opEqS:Op2:=fun x y k=>match x,y with
 | .str a,.str b=>k (.d (.bl (decide (a=b))))
 | _,_=>False
def opNeS:Op2:=fun x y k=>match x,y with
 | .str a,.str b=>k (.d (.bl (!decide (a=b))))
 | _,_=>False
def fzW (f:Fl) (o:Option L) (j:Nat) (ρ1:Ev) (post:Fl→Ev→Prop):Prop:=match f with
 | .nx=>(match o with
  | some (.own _ xs)=>post .nx (ρ1.set j (.d (.lst xs)))
  | _=>post .nx ρ1)
 | f=>post f ρ1
def wFzS (j:Nat) (t:W Fl):W Fl:=fun ρ post=>t ρ fun f ρ1=>fzW f ρ1[j]? j ρ1 post
theorem fzW_own (a:Addr) (xs:List D) (j:Nat) (ρ1:Ev) (post:Fl→Ev→Prop):fzW .nx (some (.own a xs)) j ρ1 post=post .nx (ρ1.set j (.d (.lst xs))):=(rfl)
theorem fzW_d (x:D) (j:Nat) (ρ1:Ev) (post:Fl→Ev→Prop):fzW .nx (some (.d x)) j ρ1 post=post .nx ρ1:=(rfl)
end
end L2
namespace L2
open PySem PySem.Spec PyProof.Rows
section
variable {X:Cx} {e a b c tg:Expr} {es rest:List Expr} {pos p p2 apos cpos:Pos} {ta tb tc te:W L} {x y:Str}
def wTupB (t:W (List L)):W L:=fun ρ post=>t ρ fun ls ρ1=>ls.length≤sizeLine∧post (.bx none ls) ρ1
def wLstB (t:W (List L)):W L:=fun ρ post=>t ρ fun ls ρ1=>ls.length≤sizeLine∧∀ a,post (.bx (some a) ls) ρ1
def tgNamesL:List Nat→List L→Ev→(Ev→Prop)→Prop
 | [],[],ρ,k=>k ρ
 | i::is,l::ls,ρ,k=>tgNamesL is ls (ρ.set i l) k
 | _,_,_,_=>False
def wAsgB (is:List Nat) (te:W L):W Fl:=fun ρ post=>te ρ fun r ρ1=>match r with
 | .bx none ls=>tgNamesL is ls ρ1 fun ρ2=>post .nx ρ2
 | _=>False
def inV' (i:Nat) (k:Int) (ρ:Ev) (K:Option Addr→List L→Nat→Addr→List D→Prop):Prop:=match ρ[i]? with
 | some (.bx q ls)=>∃ j,ixN ls.length k=some j∧∃ l xs,ls[j]?=some (.own l xs)∧K q ls j l xs
 | _=>False
def isBx (i:Nat) (ρ:Ev):Prop:=match ρ[i]? with
 | some (.bx _ _)=>True
 | _=>False
def wAppIn (i:Nat) (tk te:W L):W L:=fun ρ post=>isBx i ρ∧tk ρ fun r ρ1=>eU r fun k=>ρ1=ρ∧(inV' i k ρ fun _ _ _ _ _=>True)∧te ρ fun r ρ2=>toD r fun y=>ρ2=ρ∧inV' i k ρ fun q ls j l xs=>xs.length < sizeLine∧post (.d .non) (ρ.set i (.bx q (ls.set j (.own l (xs++[y])))))
def wClearIn (i:Nat) (tk:W L):W L:=fun ρ post=>isBx i ρ∧tk ρ fun r ρ1=>eU r fun k=>ρ1=ρ∧inV' i k ρ fun q ls j l _=>post (.d .non) (ρ.set i (.bx q (ls.set j (.own l []))))
def wPopIn (i:Nat) (tk:W L):W L:=fun ρ post=>isBx i ρ∧tk ρ fun r ρ1=>eU r fun k=>ρ1=ρ∧inV' i k ρ fun q ls j l xs=>∃ y,xs[xs.length - 1]?=some y∧post (.d y) (ρ.set i (.bx q (ls.set j (.own l xs.dropLast))))
end
end L2
namespace L2
open PySem PySem.Spec PyProof.Rows
section
variable {X:Cx} {pins:List (Addr×Obj)} {σ:St} {H Pr:Hp} {s:Shared} {ρ:Ev} {pos p1 p2:Pos}
def wDict (n:Nat):W L:=fun ρ post=>post (.d (.dct n)) ρ
def signsD (x:Str):List D:=x.cps.toList.map fun c=>.str ⟨#[c]⟩
def signsOf (d:D) (k:List D→Prop):Prop:=match d with
 | .str x=>x.cps.all (· < 128)=true∧k (signsD x)
 | _=>False
def wSrcS (t:W L):W (List D):=fun ρ post=>t ρ fun r ρ1=>toD r fun x=>signsOf x fun xs=>post xs ρ1
end
end L2
namespace L2
open PySem PySem.Spec PyProof.Rows
structure FX (K:PySem.W.Frag) (mg:Str→Option Value) (g:Str) (st:Stmt) (a:Addr) (fd:FuncData) (P:List Str):Prop where
 f:Fun K g g st a fd
 b:Binds K fd P []
 m:mg g=some (.ref a)
abbrev fdM (g:Str) (st:Stmt) (md:Value) (c:Nat):FuncData:=PySem.W.fnOf g g (defArgs st) (defBody st) (ai st) .none .none .none md none (.ref c) .none
theorem FX.mk' {K:PySem.W.Frag} {mg:Str→Option Value} {h:Heap} (X:K.In h) (G:h.Ns mainGlobals mg) {g:Str} {st:Stmt} {a:Addr} {c:Nat} {md:Value} {P:List Str} (e1:PySem.W.nsIn K mainGlobals g=some (some (.ref a)))
  (e2:K.lookup a=some ⟨.type "function",none,.func (fdM g st md c),#[]⟩) (e3:PySem.W.codeIn K (.ref c) g=true) (e4:PySem.W.keepIn K (.ref a)=true)
  (e5:∀ (kV doc pm:Value) (an:Option Addr) (cdv ct:Value) (us:List Value),us.length=P.length→bindArgs (PySem.W.fnOf g g (defArgs st) (defBody st) (ai st) .none kV doc pm an cdv ct) ⟨us,[]⟩=pure (P.zip us)):FX K mg g st a (fdM g st md c) P :=
 ⟨fun_mk e2 e3 e4,(fun_mk e2 e3 e4).binds e5,PySem.W.mg_of X G e1⟩
section
variable {X:Cx} {k k' n:Nat} {f:Addr} {fd:FuncData} {ps:List Str} {fs:FS} {g:Str} {st:Stmt} {e:Expr} {es:List Expr} {bs:List (Option Nat)} {t:W (List L)} {p pos:Pos}
theorem ax (F:FnOk X.prog X.w X.K X.mg X.base CX0 k f fd ps (spF X.K n fs)) (T:FX X.K X.mg g st f fd ps) (hr:Room k' X.A) (ha:PAL X (e::es) bs t) (hk:k≤k':=by decide) (hg:Gl X g:=by rfl) (hn:bs.length=n:=by rfl) (hdb:(g == ("__debug__" : Str))=false:=by decide) (he:starEach (e::es) X.env=(false,eval e X.env)::starEach es X.env:=by rfl) (hpl:(backTo pos (starEach es X.env)).any (·.1)=false:=by rfl) :
  PL X (.Call (.Name g p) (e::es) [] pos) (av fs t):=pl_call F (hr.mono hk) hg T.m T.f.kp T.b pass0 ha hn hdb he hpl
theorem bq (F:FnOk X.prog X.w X.K X.mg X.base CX0 k f fd ps (spF X.K n fs)) (T:FX X.K X.mg g st f fd ps) (hr:Room k' X.A) (j i:Nat) (ha:PAL X (e::es) bs t) (hk:k≤k':=by decide) (hg:Gl X g:=by rfl) (hj:bs[j]?=some (some i):=by rfl) (hn:bs.length=n:=by rfl) (hdb:(g == ("__debug__" : Str))=false:=by decide) (he:starEach (e::es) X.env=(false,eval e X.env)::starEach es X.env:=by rfl) (hpl:(backTo pos (starEach es X.env)).any (·.1)=false:=by rfl) :
  PL X (.Call (.Name g p) (e::es) [] pos) (a8 fs j i t):=pl_callB F (hr.mono hk) hg T.m T.f.kp T.b pass0 j i ha hj hn hdb he hpl
end
end L2
namespace L2
open PySem PySem.Spec PyProof.Rows
section
variable {X:Cx}
def opAddT:Op2:=fun x y k=>match x,y with
 | .tup xs,.tup ys=>xs≠[]∧ys≠[]∧xs.length+ys.length≤sizeLine∧k (.d (.tup (xs++ys)))
 | _,_=>False
def opIsB:Op2:=fun x y k=>match x,y with
 | .bl b,.bl c=>k (.d (.bl (b == c)))
 | _,_=>False
def opNotB:Op2:=fun x y k=>match x,y with
 | .bl b,.bl c=>k (.d (.bl (!(b == c))))
 | _,_=>False
end
end L2
namespace L2
open PySem PySem.Spec PyProof.Rows
theorem fnOk_no {P:Program} {w:World} {K:PySem.W.Frag} {mg:Str→Option Value} {base:Heap} {CX:CXT} {k n:Nat} {f:Addr} {fd:FuncData} {ps:List Str} {fs:FS} (h:∀ ls post,¬ fs ls post):FnOk P w K mg base CX k f fd ps (spF K n fs) :=
 ⟨fun _ _ _ _ ⟨_,_,ls,post,_,q,_⟩=>(h ls post q).elim,fun _ _ _ _ _ _ _ _ _ _ _ _ _ ⟨_,_,ls,post,_,q,_⟩=>(h ls post q).elim⟩
mutual
def depD:D→Nat
 | .tup xs=>depDs xs+1
 | .lst xs=>depDs xs+1
 | _=>0
def depDs:List D→Nat
 | []=>0
 | x::xs=>max (depD x) (depDs xs)
end
theorem depDs_mem {x:D}:∀ {xs:List D},x∈xs→depD x≤depDs xs
 | y::ys,h=>by
  simp only [depDs]
  rcases List.mem_cons.mp h with rfl | h
  ·
   omega
  ·
   have:=depDs_mem h; omega
theorem depDs_le {n:Nat}:∀ {xs:List D},(∀ x∈xs,depD x≤n)→depDs xs≤n
 | [],_=>Nat.zero_le _
 | y::ys,h=>by
  simp only [depDs]
  have:=h y List.mem_cons_self
  have:=depDs_le (xs:=ys) fun x hx=>h x (List.mem_cons_of_mem _ hx)
  omega
section
variable {X:Cx} {a:Expr} {pos p:Pos} {ta:W L}
def opIsT2 (T U:String):D→(L→Prop)→Prop:=fun d k=>k (.d (.bl (isTy T d || isTy U d)))
end
end L2
namespace L2
open PySem PySem.Spec PyProof.Rows PySem.Builtin.Str
inductive Sk where
 | l | t
def Sk.At:Sk→Heap→Addr→Addr→Nat→Prop
 | .l,h,j,a,i=>h.IsListIter j a i
 | .t,h,j,a,i=>IsTupIter h j a i
def Sk.Sq:Sk→Heap→Addr→Array Value→Prop
 | .l,h,a,xs=>h.IsList a xs
 | .t,h,a,xs=>IsTup h a xs
theorem Sk.At.to {k:Sk} {h h':Heap} {j a:Addr} {i:Nat} (x:k.At h j a i) (e:∀ o,h.get? j=some o→h'.get? j=some o):k.At h' j a i:=by
 cases k with
 | l=>obtain ⟨o,z,r⟩:=x; exact ⟨o,e _ z,r⟩
 | t=>obtain ⟨o,z,r⟩:=x; exact ⟨o,e _ z,r⟩
theorem Sk.Sq.to {k:Sk} {h h':Heap} {a:Addr} {xs:Array Value} (x:k.Sq h a xs) (e:∀ o,h.get? a=some o→h'.get? a=some o):k.Sq h' a xs:=by
 cases k with
 | l=>obtain ⟨o,z,r⟩:=x; exact ⟨o,e _ z,r⟩
 | t=>obtain ⟨o,z,r⟩:=x; exact ⟨o,e _ z,r⟩
theorem Sk.At.obj {k:Sk} {h:Heap} {j a:Addr} {i:Nat} (x:k.At h j a i):∃ o,h.get? j=some o∧(∀ v,o.data≠.cell v)∧o.cls≠.type "list"∧o.cls≠.type "tuple":=by
 cases k with
 | l=>obtain ⟨o,z,c,d⟩:=x; exact ⟨o,z,(fun v q=>by rw [d] at q; cases q),by rw [c]; simp,by rw [c]; simp⟩
 | t=>obtain ⟨o,z,c,d⟩:=x; exact ⟨o,z,(fun v q=>by rw [d] at q; cases q),by rw [c]; simp,by rw [c]; simp⟩
theorem Sk.Sq.obj {k:Sk} {h:Heap} {a:Addr} {xs:Array Value} (x:k.Sq h a xs):∃ o,h.get? a=some o∧(o.cls=.type "list"∨o.cls=.type "tuple"):=by
 cases k with
 | l=>obtain ⟨o,z,c,d⟩:=x; exact ⟨o,z,.inl c⟩
 | t=>obtain ⟨o,z,c,d⟩:=x; exact ⟨o,z,.inr c⟩
section
variable {prog:Program} {w:World} {A:Around} {E:Value→Shared→Prop} {s:Shared}
theorem draw_t {j q:Addr} {i:Nat} {ys:Array Value} {y:Value} {Q:Value→Shared→Prop} (hj:IsTupIter s.heap j q i) (hq:IsTup s.heap q ys) (hy:ys[i]?=some y)
  (k:∀ h',IsTupIter h' j q (i+1)→Heap.SameBut j s.heap h'→Q y { s with heap:=h' }):wpAny (model prog w) A (Builtin.SmallTypes.nextOf (.ref j)) Q E s:=by
 obtain ⟨u,hu,cu,du⟩:=id hj
 obtain ⟨v,hv,_,n,dv⟩:=hq
 unfold Builtin.SmallTypes.nextOf
 refine wpAny_bind (wpAny_callSpecial?_slot (name:=Str.ofString "__next__") hj.typeIs slot_tupleiter_next (wpAny_call_entry slot_tupleiter_next hj.typeIs entry_tupleiter_next ?_ (args_tupleiter_next _)))
 show wpAny _ _ (field (.ref j) 0 >>= _) _ _ s
 refine wpAny_bind (wpAny_field hu du (x:=.ref q) rfl ?_)
 show wpAny _ _ (if (Value.ref q == Value.none)=true then _ else _) _ _ s
 rw [if_neg (show ¬ ((Value.ref q == Value.none)=true) from Bool.false_ne_true)]
 show wpAny _ _ (field (.ref j) 1 >>= _) _ _ s
 refine wpAny_bind (wpAny_field hu du (x:=.int i 0) rfl ?_)
 show wpAny _ _ (seqItems? (.ref q) >>= _) _ _ s
 refine wpAny_bind (wpAny_seqItems hv dv ?_)
 simp only [hy,Int.toNat_natCast]
 refine wpAny_bind (wpAny_setField hu du (by simp) (wpAny_pure ⟨y,rfl,wpAny_pure (k _ ?_ (Heap.SameBut.update ..))⟩))
 exact ⟨_,Heap.get?_update_self _ hu (Obj.isFreed_of_fields (Obj.data_mapFields du _)),(Obj.cls_mapFields ..).trans cu,by rw [Obj.data_mapFields du]; simp [rawInt]⟩
theorem draw_tE {j q:Addr} {i:Nat} {ys:Array Value} {Q:Value→Shared→Prop} (h0:A.handled=none) (hj:IsTupIter s.heap j q i) (hq:IsTup s.heap q ys) (hy:ys[i]?=none)
  (k:∀ h' e,Heap.ExtBut j s.heap h'→(∃ o,h'.get? e=some o∧o.cls=.type "StopIteration")→E (.ref e) { s with heap:=h' }):wpAny (model prog w) A (Builtin.SmallTypes.nextOf (.ref j)) Q E s:=by
 obtain ⟨u,hu,cu,du⟩:=id hj
 obtain ⟨v,hv,_,n,dv⟩:=hq
 unfold Builtin.SmallTypes.nextOf
 refine wpAny_bind (wpAny_callSpecial?_slot (name:=Str.ofString "__next__") hj.typeIs slot_tupleiter_next (wpAny_call_entry slot_tupleiter_next hj.typeIs entry_tupleiter_next ?_ (args_tupleiter_next _)))
 show wpAny _ _ (field (.ref j) 0 >>= _) _ _ s
 refine wpAny_bind (wpAny_field hu du (x:=.ref q) rfl ?_)
 show wpAny _ _ (if (Value.ref q == Value.none)=true then _ else _) _ _ s
 rw [if_neg (show ¬ ((Value.ref q == Value.none)=true) from Bool.false_ne_true)]
 show wpAny _ _ (field (.ref j) 1 >>= _) _ _ s
 refine wpAny_bind (wpAny_field hu du (x:=.int i 0) rfl ?_)
 show wpAny _ _ (seqItems? (.ref q) >>= _) _ _ s
 refine wpAny_bind (wpAny_seqItems hv dv ?_)
 simp only [hy,Int.toNat_natCast]
 refine wpAny_bind (wpAny_rule (wpAny_bind (wpAny_setField hu du (by simp) ?_)))
 show wpAny _ _ (newExc (.type "StopIteration") [] >>= _) _ _ { s with heap:=_ }
 refine wpAny_bind ?_
 simp only [newExc,newTuple]
 refine wpAny_bind (wpAny_newObj_type ?_ (by size_fits)); refine wpAny_bind (m:=firstArgMember _ _) (wpAny_of_eq (a:=Value.none) (by first | rfl | (simp only [firstArgMember]; rfl)) ?_); refine wpAny_newObj_type ?_ (by size_fits)
 simp only [raiseNew]
 refine wpAny_bind (wpAny_handled ?_); first | rw [show A.in1.handled=none from h0] | rw [h0]
 refine wpAny_bind (wpAny_pure (wpAny_throw ?_))
 exact k _ _ (((Heap.SameBut.update ..).extBut.push _).push _) ⟨_,Heap.get?_push_size _ rfl,rfl⟩
theorem Sk.draw {k:Sk} {j a:Addr} {i:Nat} {ys:Array Value} {y:Value} {Q:Value→Shared→Prop} (hj:k.At s.heap j a i) (ha:k.Sq s.heap a ys) (hy:ys[i]?=some y)
  (q:∀ h',k.At h' j a (i+1)→Heap.SameBut j s.heap h'→Q y { s with heap:=h' }):wpAny (model prog w) A (Builtin.SmallTypes.nextOf (.ref j)) Q E s:=by
 cases k with
 | l=>exact wpAny_nextOf_list_item hj ha hy q
 | t=>exact draw_t hj ha hy q
theorem Sk.drawE {k:Sk} {j a:Addr} {i:Nat} {ys:Array Value} {Q:Value→Shared→Prop} (h0:A.handled=none) (hj:k.At s.heap j a i) (ha:k.Sq s.heap a ys) (hy:ys[i]?=none)
  (q:∀ h' e,Heap.ExtBut j s.heap h'→(∃ o,h'.get? e=some o∧o.cls=.type "StopIteration")→E (.ref e) { s with heap:=h' }):wpAny (model prog w) A (Builtin.SmallTypes.nextOf (.ref j)) Q E s:=by
 cases k with
 | l=>exact wpAny_nextOf_list_end h0 hj ha hy q
 | t=>exact draw_tE h0 hj ha hy q
end
abbrev cW (h:Heap) (T:Addr) (xs:List Value):Prop:=h.get? T=some { cls:=.type "tuple",data:=.seq xs.toArray }
abbrev Zi:=Sk×Addr×Addr
def Zi.ofs (js:List Zi):List Addr:=js.map (·.2.1)
structure ZA (z I O:Addr) (js:List Zi):Prop where
 nd:(z::I::O::Zi.ofs js).Nodup
 src:∀ p∈js,p.2.2∉z::O::Zi.ofs js
structure ZSt (z I O:Addr) (js:List Zi) (f:Value) (i:Nat) (h:Heap):Prop where
 hz:IsZip h z I O f
 hI:cW h I ((Zi.ofs js).map .ref)
 hO:∃ os,os.length=js.length∧cW h O os
 at':∀ p∈js,p.1.At h p.2.1 p.2.2 i
def ZKeep (z O:Addr) (js:List Zi) (h h':Heap):Prop:=∀ c o,c∉z::O::Zi.ofs js→h.get? c=some o→h'.get? c=some o
structure ZMid (z I O:Addr) (js:List Zi) (xs:List Value) (i j:Nat) (h₀ h:Heap):Prop where
 hz:IsZip h z I O .ellipsis
 hO:∃ os,os.length=js.length∧cW h O os∧os.take j=xs.take j
 ahead:∀ m p,m < j→js[m]?=some p→p.1.At h p.2.1 p.2.2 (i+1)
 behind:∀ m p,j≤m→js[m]?=some p→p.1.At h p.2.1 p.2.2 i
 keep:ZKeep z O js h₀ h
 sz:h.objs.size=h₀.objs.size
theorem fE {js:List Zi} {p:Zi} (h:p∈js):p.2.1∈Zi.ofs js:=List.mem_map.mpr ⟨p,h,rfl⟩
theorem ZA.zO {z I O:Addr} {js:List Zi} (D:ZA z I O js):z≠O:=fun e=>by have:=D.nd; simp [e] at this
theorem ZA.zj {z I O:Addr} {js:List Zi} (D:ZA z I O js) {p:Zi} (hp:p∈js):p.2.1≠z∧p.2.1≠O:=by
 have n:=D.nd
 have m:=fE hp
 simp only [List.nodup_cons,List.mem_cons,not_or] at n
 exact ⟨fun e=>n.1.2.2 (e ▸ m),fun e=>n.2.2.1 (e ▸ m)⟩
theorem ZA.Iz {z I O:Addr} {js:List Zi} (D:ZA z I O js):I∉z::O::Zi.ofs js:=by
 have n:=D.nd
 simp only [List.nodup_cons,List.mem_cons,not_or] at n ⊢
 exact ⟨Ne.symm n.1.1,n.2.1.1,n.2.1.2⟩
theorem ZA.inj {z I O:Addr} {js:List Zi} (D:ZA z I O js) {m m':Nat} {p p':Zi} (h:js[m]?=some p) (h':js[m']?=some p') (e:p.2.1=p'.2.1):m=m':=by
 have n:=D.nd
 simp only [List.nodup_cons] at n
 obtain ⟨hm,e1⟩:=List.getElem?_eq_some_iff.mp h
 obtain ⟨hm',e2⟩:=List.getElem?_eq_some_iff.mp h'
 have key:=List.pairwise_iff_getElem.mp n.2.2.2
 have q:∀ k (hk:k < js.length),(Zi.ofs js)[k]'(by simpa [Zi.ofs] using hk)=js[k].2.1:=fun k hk=>by simp [Zi.ofs]
 have hl:(Zi.ofs js).length=js.length:=by simp [Zi.ofs]
 rcases Nat.lt_trichotomy m m' with g | g | g
 ·
  exact absurd (by rw [q m hm,q m' hm',e1,e2,e]) (key m m' (by omega) (by omega) g)
 ·
  exact g
 ·
  exact absurd (by rw [q m hm,q m' hm',e1,e2,e]) (key m' m (by omega) (by omega) g)
section
variable {prog:Program} {w:World} {A:Around} {E:Value→Shared→Prop} {s:Shared} {z I O:Addr} {js:List Zi} {i:Nat}
theorem ZMid.next (D:ZA z I O js) {xs os:List Value} {j:Nat} {p:Zi} {x:Value} {h₀ h h1:Heap} (hj:js[j]?=some p) (hx:xs[j]?=some x) (M:ZMid z I O js xs i j h₀ h) (a1:p.1.At h1 p.2.1 p.2.2 (i+1)) (s1:Heap.SameBut p.2.1 h h1)
  (ol:os.length=js.length) (ho1:cW h1 O os) (ht:os.take j=xs.take j):ZMid z I O js xs i (j+1) h₀ (h1.update O (Obj.mapSeq (·.setIfInBounds j x))):=by
 have pm:p∈js:=List.mem_of_getElem? hj
 have jl:j < js.length:=(List.getElem?_eq_some_iff.mp hj).1
 have s2:Heap.SameBut O h1 (h1.update O (Obj.mapSeq (·.setIfInBounds j x))):=Heap.SameBut.update ..
 have ho2:cW (h1.update O (Obj.mapSeq (·.setIfInBounds j x))) O (os.set j x):=by
  show Heap.get? _ _=_
  rw [Heap.get?_update_self _ ho1 rfl]
  simp [Obj.mapSeq]
 have k2:∀ c o,c≠O→c≠p.2.1→h.get? c=some o→(h1.update O (Obj.mapSeq (·.setIfInBounds j x))).get? c=some o:=fun c o n1 n2 e=>s2.extBut _ _ n1 (s1.extBut _ _ n2 e)
 refine ⟨k2 _ _ D.zO (Ne.symm (D.zj pm).1) M.hz,⟨os.set j x,by simp [ol],ho2,?_⟩,fun m q hm hq=>?_,fun m q hm hq=>?_,fun c o hc e=>?_,by rw [s2.1,s1.1]; exact M.sz⟩
 ·
  have hxl:j < xs.length:=(List.getElem?_eq_some_iff.mp hx).1
  rw [List.take_succ,List.take_succ,List.getElem?_set_self (by omega),hx,List.take_set_of_le (Nat.le_refl _),ht]
 ·
  have qm:q∈js:=List.mem_of_getElem? hq
  rcases Nat.lt_or_ge m j with h | h
  ·
   have ne:q.2.1≠p.2.1:=fun e=>by have:=D.inj hq hj e; omega
   exact (M.ahead m q h hq).to fun o e=>k2 _ o (D.zj qm).2 ne e
  ·
   have:m=j:=by omega
   subst this
   rw [hj] at hq
   cases hq
   exact a1.to fun o e=>s2.extBut _ _ (D.zj pm).2 e
 ·
  have qm:q∈js:=List.mem_of_getElem? hq
  have ne:q.2.1≠p.2.1:=fun e=>by have:=D.inj hq hj e; omega
  exact (M.behind m q (by omega) hq).to fun o e=>k2 _ o (D.zj qm).2 ne e
 ·
  have n:=hc
  simp only [List.mem_cons,not_or] at n
  exact k2 c o n.2.1 (fun q=>n.2.2 (q ▸ fE pm)) (M.keep c o hc e)
theorem zipIdx_at {α:Type} {xs:List α} {j:Nat} {x:α×Nat} {r:List (α×Nat)} (e:xs.zipIdx.drop j=x::r):x.2=j∧xs[j]?=some x.1∧xs.zipIdx.drop (j+1)=r:=by
 have h0:(xs.zipIdx.drop j)[0]?=some x:=by rw [e]; rfl
 rw [List.getElem?_drop,Nat.add_zero,List.getElem?_zipIdx] at h0
 have h2:xs.zipIdx.drop (j+1)=r:=by rw [← List.drop_drop,e]; rfl
 cases h:xs[j]? with
 | none=>rw [h] at h0; cases h0
 | some y =>
  rw [h] at h0
  simp only [Option.map_some,Nat.zero_add,Option.some.injEq] at h0
  subst h0
  exact ⟨rfl,rfl,h2⟩
theorem sz8 {n:Nat} (h:n≤8):n≤sizeLine:=Nat.le_trans h (by decide)
end
end L2
namespace L2
open PySem PySem.Spec PyProof.Rows PySem.Builtin.Str
def Sk.nm:Sk→String
 | .l=>"list_iterator"
 | .t=>"tuple_iterator"
abbrev Sk.itO (k:Sk) (a:Addr):Obj:={ cls:=.type k.nm,data:=.fields #[.ref a,.int 0 0] }
section
variable {prog:Program} {w:World} {A:Around} {E:Value→Shared→Prop} {s:Shared}
theorem Sk.iter {k:Sk} {a:Addr} {ys:Array Value} {Q:Value→Shared→Prop} (h:k.Sq s.heap a ys) (hQ:Q (.ref s.heap.objs.size) { s with heap:=s.heap.push (k.itO a) }):wpAny (model prog w) A (pyIter (.ref a)) Q E s:=by
 cases k with
 | l=>exact wpAny_pyIter_list h hQ
 | t=>exact iter_tuple h hQ
end
theorem Sk.itAt {k:Sk} {h:Heap} {j a:Addr} (e:h.get? j=some (k.itO a)):k.At h j a 0:=by
 cases k with
 | l=>exact ⟨_,e,rfl,rfl⟩
 | t=>exact ⟨_,e,rfl,rfl⟩
abbrev zA (h:Heap) (k:Sk) (a:Addr):Heap:=h.push (k.itO a)
abbrev zT (h:Heap) (vs:List Value):Heap:=h.push { cls:=.type "tuple",data:=.seq vs.toArray }
abbrev zZ (h:Heap) (I O:Addr):Heap:=h.push { cls:=.type "zip",data:=.fields #[.none,.bool false,.bool false,.ref I,.ref O] }
abbrev z2T (h:Heap) (k m:Sk) (a b:Addr):Heap:=zT (zA (zA h k a) m b) [.ref h.objs.size,.ref (zA h k a).objs.size]
abbrev z2N (h:Heap) (k m:Sk) (a b:Addr):Heap:=zT (z2T h k m a b) [.none,.none]
abbrev z2Z (h:Heap) (k m:Sk) (a b:Addr):Heap:=zZ (z2N h k m a b) (zA (zA h k a) m b).objs.size (z2T h k m a b).objs.size
theorem new_zip2 (k m:Sk) (a b:Addr) (xs ys:Array Value):Meets (Builtin.«zip.__new__» ⟨[.type "zip",.ref a,.ref b],[]⟩) (fun _ R s=>k.Sq s.heap a xs∧m.Sq s.heap b ys∧R (.ok (.ret (.ref (z2N s.heap k m a b).objs.size))) { s with heap:=z2Z s.heap k m a b }) :=
 .of_wp fun prog w A R s q=>by
  obtain ⟨hp,g,d,tk,os⟩:=s; obtain ⟨q1,q2,q⟩:=q
  have hsub:=sub_zip
  have p1:Sk.Sq k (Shared.heap ⟨hp,g,d,tk,os⟩) a xs:=q1
  have p2:Sk.Sq m (Shared.heap ⟨hp.push (k.itO a),g,d,tk,os⟩) b ys:=q2.to fun o e=>Heap.get?_push_of_some _ e
  wp_walk using Sk.iter p1,Sk.iter p2
  exact ⟨_,rfl,q⟩
end L2
namespace L2
open PySem PySem.Spec PyProof.Rows PySem.Builtin.Str
def SqK (K:PySem.W.Frag) (H:Hp):Sk→Addr→List V→Prop
 | .l,a,xs=>SqL K H a xs
 | .t,a,xs=>SqT K H a xs
section
variable {X:Cx} {pins:List (Addr×Obj)} {σ:St} {H:Hp} {s:Shared}
theorem Inv.sqk {k:Sk} {a:Addr} {xs:List V} (I:Inv X pins σ H s) (h:SqK X.K H k a xs):∃ its:List Value,Vals xs its∧k.Sq s.heap a its.toArray:=by
 cases k with
 | l=>obtain ⟨its,r,p,_⟩:=I.list h; exact ⟨its,r,p.isList⟩
 | t=>obtain ⟨its,r,p,_⟩:=I.tuple h; exact ⟨its,r,p⟩
end
open Classical in
theorem choose_on {α β:Type} [Inhabited β] {P:α→β→Prop} {l:List α} (h:∀ x∈l,∃ y,P x y):∃ f:α→β,∀ x∈l,P x (f x) :=
 ⟨fun x=>if hx:x∈l then Classical.choose (h x hx) else default,fun x hx=>by
  dsimp only
  rw [dif_pos hx]
  exact Classical.choose_spec (h x hx)⟩
theorem paired_map {α β γ:Type} {F:β→γ→Prop} {f:α→β} {g:α→γ}:∀ {l:List α},(∀ x∈l,F (f x) (g x))→Paired F (l.map f) (l.map g)
 | [],_=>.nil
 | x::l,h=>.cons (h x List.mem_cons_self) (paired_map fun y hy=>h y (List.mem_cons_of_mem _ hy))
theorem reps_map {K:PySem.W.Frag} {H:Hp} {α:Type} {f:α→V} {g:α→D}:∀ {l:List α},(∀ x∈l,Rep K H (f x) (g x))→Reps K H (l.map f) (l.map g)
 | [],_=>.nil
 | x::l,h=>.cons (h x List.mem_cons_self) (reps_map fun y hy=>h y (List.mem_cons_of_mem _ hy))
def SqF (K:PySem.W.Frag) (H:Hp):Sk→Addr→List V→Prop
 | .l,a,xs=>SqZ K H a xs
 | .t,a,xs=>SqT K H a xs
theorem SqF.pres {K:PySem.W.Frag} {H H':Hp} {k:Sk} {a:Addr} {xs:List V} (p:Pres H H') (h:SqF K H k a xs):SqK K H' k a xs:=by
 cases k with
 | l=>exact (SqZ.pres p h).l
 | t=>exact SqT.pres p h
def Sk.mk:Sk→List D→D
 | .l,xs=>.lst xs
 | .t,xs=>.tup xs
theorem Sk.rep {K:PySem.W.Frag} {H:Hp} {k:Sk} {v:V} {xs:List D} (r:Rep K H v (k.mk xs)):∃ a vs,v=.ref a∧SqF K H k a vs∧Reps K H vs xs:=by
 cases k with
 | l=>cases r with
  | lst h rs=>exact ⟨_,_,rfl,h,rs⟩
 | t=>cases r with
  | tup h rs=>exact ⟨_,_,rfl,h,rs⟩
theorem zip_range (xs ys:List D):((List.range (min xs.length ys.length)).map fun i=>D.tup [xs.getD i .non,ys.getD i .non])=zipD xs ys:=by
 refine List.ext_getElem (by simp [zipD]) fun i h1 h2=>?_
 have:i < min xs.length ys.length:=by simpa using h1
 simp only [List.getElem_map,List.getElem_range,zipD,List.getElem_zip]
 rw [List.getD_eq_getElem?_getD,List.getD_eq_getElem?_getD,List.getElem?_eq_getElem (by omega),List.getElem?_eq_getElem (by omega)]
 rfl
section
variable {prog:Program} {w:World} {A:Around} {E:Value→Shared→Prop} {s:Shared}
theorem call_zipK2 {k m:Sk} {a b:Addr} {xs ys:Array Value} {Q:Value→Shared→Prop} (ha:k.Sq s.heap a xs) (hb:m.Sq s.heap b ys)
  (h:∀ h',ZSt (s.heap.objs.size+4) (s.heap.objs.size+2) (s.heap.objs.size+3) [(k,s.heap.objs.size,a),(m,s.heap.objs.size+1,b)] .none 0 h'→(∀ c o,s.heap.get? c=some o→h'.get? c=some o)→Q (.ref (s.heap.objs.size+4)) { s with heap:=h' }) :
  wpAny (model prog w) A (call (.type "zip") [.ref a,.ref b]) Q E s:=by
 refine callType_new F.called_zip (by decide) (F.typeCall_zip_2 _ _) (F.newCall_zip_2 _ _) (fun obj=>F.args_object_init_3 obj _ _) F.entry_zip_new (new_zip2 k m a b xs ys) ⟨ha,hb,?_⟩
 have z1:(zA s.heap k a).objs.size=s.heap.objs.size+1:=Heap.size_push ..
 have z2:(zA (zA s.heap k a) m b).objs.size=s.heap.objs.size+2:=by rw [Heap.size_push,z1]
 have z3:(z2T s.heap k m a b).objs.size=s.heap.objs.size+3:=by rw [Heap.size_push,z2]
 have z4:(z2N s.heap k m a b).objs.size=s.heap.objs.size+4:=by rw [Heap.size_push,z3]
 have g5:(z2Z s.heap k m a b).get? (z2N s.heap k m a b).objs.size=some _:=Heap.get?_push_size _ rfl
 have g4:(z2Z s.heap k m a b).get? (z2T s.heap k m a b).objs.size=some _:=Heap.get?_push_of_some _ (Heap.get?_push_size _ rfl)
 have g3:(z2Z s.heap k m a b).get? (zA (zA s.heap k a) m b).objs.size=some _:=Heap.get?_push_of_some _ (Heap.get?_push_of_some _ (Heap.get?_push_size _ rfl))
 have g2:(z2Z s.heap k m a b).get? (zA s.heap k a).objs.size=some _:=Heap.get?_push_of_some _ (Heap.get?_push_of_some _ (Heap.get?_push_of_some _ (Heap.get?_push_size _ rfl)))
 have g1:(z2Z s.heap k m a b).get? s.heap.objs.size=some _:=Heap.get?_push_of_some _ (Heap.get?_push_of_some _ (Heap.get?_push_of_some _ (Heap.get?_push_of_some _ (Heap.get?_push_size _ rfl))))
 show _∧_
 rw [z2,z3,z4] at g5
 rw [z1,z2] at g3
 rw [z3] at g4
 rw [z1] at g2
 rw [z4]
 refine ⟨⟨_,g5,rfl⟩,h _ ⟨g5,g3,⟨_,by simp,g4⟩,fun p hp=>?_⟩ fun c o x=>Heap.get?_push_of_some _ (Heap.get?_push_of_some _ (Heap.get?_push_of_some _ (Heap.get?_push_of_some _ (Heap.get?_push_of_some _ x))))⟩
 simp only [List.mem_cons,List.not_mem_nil,or_false] at hp
 rcases hp with rfl | rfl
 ·
  exact Sk.itAt g1
 ·
  exact Sk.itAt g2
end
def seqK (d:D) (k:Sk→List D→Prop):Prop:=match d with
 | .lst xs=>k .l xs
 | .tup xs=>k .t xs
 | _=>False
theorem seqK_is {d:D} {k:Sk→List D→Prop} (h:seqK d k):∃ s xs,d=Sk.mk s xs∧k s xs:=by
 unfold seqK at h
 split at h
 ·
  exact ⟨.l,_,rfl,h⟩
 ·
  exact ⟨.t,_,rfl,h⟩
 ·
  exact h.elim
def zipE (d d2:D) (k:List D→Prop):Prop:=seqK d fun _ xs=>seqK d2 fun _ ys=>k (zipD xs ys)
def wZipS (t u:W L):W (List D):=fun ρ post=>t ρ fun r ρ1=>toD r fun d=>u ρ1 fun r2 ρ2=>toD r2 fun d2=>zipE d d2 fun zs=>post zs ρ2
section
variable {X:Cx} {a b:Expr} {es:List Expr} {pos p apos:Pos}
end
end L2
namespace L2
open PySem PySem.Spec PyProof.Rows PySem.Builtin.Str
section
variable {prog:Program} {w:World} {A:Around} {E:Value→Shared→Prop} {s:Shared}
end
def zipT (xs ys zs:List D):List D:=(List.range xs.length).map fun i=>.tup [xs.getD i .non,ys.getD i .non,zs.getD i .non]
def zipE3 (d d2 d3:D) (k:List D→Prop):Prop:=seqK d fun _ xs=>seqK d2 fun _ ys=>seqK d3 fun _ zs=>ys.length=xs.length∧zs.length=xs.length∧k (zipT xs ys zs)
def ds3 (ls:List L) (k:D→D→D→Prop):Prop:=match ls with
 | [.d d,.d d2,.d d3]=>k d d2 d3
 | _=>False
def wZip3 (t:W (List L)):W (List D):=fun ρ post=>t ρ fun ls ρ1=>ds3 ls fun d d2 d3=>zipE3 d d2 d3 fun zs=>post zs ρ1
section
variable {X:Cx} {a b c:Expr} {es:List Expr} {pos p apos:Pos}
end
end L2
namespace L2
open PySem PySem.Spec PyProof.Rows PySem.Builtin.Str
abbrev IsZp (h:Heap) (z I O:Addr) (f:Value) (b:Bool):Prop:=h.get? z=some { cls:=.type "zip",dict:=none,data:=.fields #[f,.bool b,.bool false,.ref I,.ref O],slots:=#[] }
theorem forIn_arr {M:Model} {A:Around} {E:Value→Shared→Prop} {s:Shared} {α β:Type} (f:α→β→Sem (ForInStep β)) (J:List α→β→Shared→Prop) (Q:β→Shared→Prop)
  (turn:∀ x rest b s,J (x::rest) b s→wpAny M A (f x b) (fun r s'=>match r with | .yield b'=>J rest b' s' | .done b'=>Q b' s') E s) (fin:∀ b s,J [] b s→Q b s) (xs:Array α) (b:β) (h:J xs.toList b s):wpAny M A (forIn xs b f) Q E s:=by
 rw [← Array.forIn_toList]; exact wpAny_forIn_list f J Q turn fin _ b h
section
variable {prog:Program} {w:World} {A:Around} {E:Value→Shared→Prop} {s:Shared} {z I O:Addr} {js:List Zi} {i:Nat}
theorem alive_wp {a:Addr} {Q:Option Obj→Shared→Prop} (h:Q (s.heap.get? a) s):wpAny (model prog w) A (loadIfAlive a) Q E s:=fun Γ p hΓ=>by
 show Sem.wp _ Γ (.loadIfAlive a .pure) _ _ p s
 rw [Sem.wp_loadIfAlive]
 exact h
theorem owned_wp {f:Value} {b:Bool} {Q:Bool→Shared→Prop} (hz:IsZp s.heap z I O f b) (hf:f=.none∨∃ T:Nat,f=rawInt T) (h1:Q true s) (h2:∀ h' b',IsZp h' z I O f b'→Heap.SameBut z s.heap h'→Q false { s with heap:=h' }) :
  wpAny (model prog w) A (Builtin.SmallTypes.ownedTupleIsFree (.ref z)) Q E s:=by
 unfold Builtin.SmallTypes.ownedTupleIsFree
 refine wpAny_bind (wpAny_field hz rfl (x:=f) rfl ?_)
 rcases hf with rfl | ⟨T,rfl⟩
 ·
  exact wpAny_pure h1
 ·
  show wpAny _ _ (loadIfAlive (T:Int).toNat >>= _) _ _ s
  refine wpAny_bind (alive_wp ?_)
  cases hT:s.heap.get? (T:Int).toNat with
  | none=>exact wpAny_pure h1
  | some o =>
   show wpAny _ _ (field (.ref z) 1 >>= _) _ _ s
   refine wpAny_bind (wpAny_field hz rfl (x:=.bool b) rfl ?_)
   cases b with
   | true=>exact wpAny_pure (h2 s.heap true hz ⟨rfl,fun _ _=>rfl⟩)
   | false =>
    show wpAny _ _ (setField (.ref z) 1 (.bool true) >>= _) _ _ s
    exact wpAny_bind (wpAny_setField_rec hz (by simp) fun h' hz' hs'=>wpAny_pure (h2 h' true hz' hs'))
structure ZMd (zo:Obj) (z O:Addr) (js:List Zi) (xs:List Value) (i j:Nat) (h₀ h:Heap):Prop where
 hz:h.get? z=some zo
 hO:∃ os,os.length=js.length∧cW h O os∧os.take j=xs.take j
 ahead:∀ m p,m < j→js[m]?=some p→p.1.At h p.2.1 p.2.2 (i+1)
 behind:∀ m p,j≤m→js[m]?=some p→p.1.At h p.2.1 p.2.2 i
 keep:ZKeep z O js h₀ h
 sz:h.objs.size=h₀.objs.size
theorem ZMd.next (D:ZA z I O js) {zo:Obj} {xs os:List Value} {j:Nat} {p:Zi} {x:Value} {h₀ h h1:Heap} (hj:js[j]?=some p) (hx:xs[j]?=some x) (M:ZMd zo z O js xs i j h₀ h) (a1:p.1.At h1 p.2.1 p.2.2 (i+1)) (s1:Heap.SameBut p.2.1 h h1)
  (ol:os.length=js.length) (ho1:cW h1 O os) (ht:os.take j=xs.take j):ZMd zo z O js xs i (j+1) h₀ (h1.update O (Obj.mapSeq (·.setIfInBounds j x))):=by
 have pm:p∈js:=List.mem_of_getElem? hj
 have jl:j < js.length:=(List.getElem?_eq_some_iff.mp hj).1
 have s2:Heap.SameBut O h1 (h1.update O (Obj.mapSeq (·.setIfInBounds j x))):=Heap.SameBut.update ..
 have ho2:cW (h1.update O (Obj.mapSeq (·.setIfInBounds j x))) O (os.set j x):=by
  show Heap.get? _ _=_
  rw [Heap.get?_update_self _ ho1 rfl]
  simp [Obj.mapSeq]
 have k2:∀ c o,c≠O→c≠p.2.1→h.get? c=some o→(h1.update O (Obj.mapSeq (·.setIfInBounds j x))).get? c=some o:=fun c o n1 n2 e=>s2.extBut _ _ n1 (s1.extBut _ _ n2 e)
 refine ⟨k2 _ _ D.zO (Ne.symm (D.zj pm).1) M.hz,⟨os.set j x,by simp [ol],ho2,?_⟩,fun m q hm hq=>?_,fun m q hm hq=>?_,fun c o hc e=>?_,by rw [s2.1,s1.1]; exact M.sz⟩
 ·
  have hxl:j < xs.length:=(List.getElem?_eq_some_iff.mp hx).1
  rw [List.take_succ,List.take_succ,List.getElem?_set_self (by omega),hx,List.take_set_of_le (Nat.le_refl _),ht]
 ·
  have qm:q∈js:=List.mem_of_getElem? hq
  rcases Nat.lt_or_ge m j with h | h
  ·
   have ne:q.2.1≠p.2.1:=fun e=>by have:=D.inj hq hj e; omega
   exact (M.ahead m q h hq).to fun o e=>k2 _ o (D.zj qm).2 ne e
  ·
   have:m=j:=by omega
   subst this
   rw [hj] at hq
   cases hq
   exact a1.to fun o e=>s2.extBut _ _ (D.zj pm).2 e
 ·
  have qm:q∈js:=List.mem_of_getElem? hq
  have ne:q.2.1≠p.2.1:=fun e=>by have:=D.inj hq hj e; omega
  exact (M.behind m q (by omega) hq).to fun o e=>k2 _ o (D.zj qm).2 ne e
 ·
  have n:=hc
  simp only [List.mem_cons,not_or] at n
  exact k2 c o n.2.1 (fun q=>n.2.2 (q ▸ fE pm)) (M.keep c o hc e)
structure LSt (z I O:Addr) (js:List Zi) (i:Nat) (h:Heap):Prop where
 hz:∃ f b,(f=.none∨∃ T:Nat,f=rawInt T)∧IsZp h z I O f b
 hI:cW h I ((Zi.ofs js).map .ref)
 hO:∃ os,os.length=js.length∧cW h O os
 at':∀ p∈js,p.1.At h p.2.1 p.2.2 i
structure ZMp (zo:Obj) (z O:Addr) (js:List Zi) (i j:Nat) (h₀ h:Heap):Prop where
 hz:h.get? z=some zo
 hO:∃ os,os.length=js.length∧cW h O os
 ahead:∀ m p,m < j→js[m]?=some p→p.1.At h p.2.1 p.2.2 (i+1)
 behind:∀ m p,j≤m→js[m]?=some p→p.1.At h p.2.1 p.2.2 i
 keep:ZKeep z O js h₀ h
 sz:h.objs.size=h₀.objs.size
theorem ZMp.next (D:ZA z I O js) {zo:Obj} {j:Nat} {p:Zi} {h₀ h h1:Heap} (hj:js[j]?=some p) (M:ZMp zo z O js i j h₀ h) (a1:p.1.At h1 p.2.1 p.2.2 (i+1)) (s1:Heap.SameBut p.2.1 h h1):ZMp zo z O js i (j+1) h₀ h1:=by
 have pm:p∈js:=List.mem_of_getElem? hj
 obtain ⟨os,ol,ho⟩:=M.hO
 have k2:∀ c o,c≠p.2.1→h.get? c=some o→h1.get? c=some o:=fun c o n e=>s1.extBut _ _ n e
 refine ⟨k2 _ _ (Ne.symm (D.zj pm).1) M.hz,⟨os,ol,k2 _ _ (Ne.symm (D.zj pm).2) ho⟩,fun m q hm hq=>?_,fun m q hm hq=>?_,fun c o hc e=>?_,by rw [s1.1]; exact M.sz⟩
 ·
  rcases Nat.lt_or_ge m j with h | h
  ·
   have ne:q.2.1≠p.2.1:=fun e=>by have:=D.inj hq hj e; omega
   exact (M.ahead m q h hq).to fun o e=>k2 _ o ne e
  ·
   have:m=j:=by omega
   subst this
   rw [hj] at hq
   cases hq
   exact a1
 ·
  have ne:q.2.1≠p.2.1:=fun e=>by have:=D.inj hq hj e; omega
  exact (M.behind m q (by omega) hq).to fun o e=>k2 _ o ne e
 ·
  have n:=hc
  simp only [List.mem_cons,not_or] at n
  exact k2 c o (fun q=>n.2.2 (q ▸ fE pm)) (M.keep c o hc e)
theorem ofs_at {x:Value×Nat} {rest:List (Value×Nat)} {j:Nat} (er:((Zi.ofs js).map Value.ref).zipIdx.drop j=x::rest):∃ p,js[j]?=some p∧x=(.ref p.2.1,j)∧((Zi.ofs js).map Value.ref).zipIdx.drop (j+1)=rest:=by
 obtain ⟨e1,e2,e3⟩:=zipIdx_at er
 rw [List.getElem?_map] at e2
 obtain ⟨y,e4,e5⟩:=Option.map_eq_some_iff.mp e2
 unfold Zi.ofs at e4
 rw [List.getElem?_map] at e4
 obtain ⟨p,hp,e6⟩:=Option.map_eq_some_iff.mp e4
 exact ⟨p,hp,Prod.ext (by rw [← e5,← e6]) e1,e3⟩
abbrev zEll (I O:Addr) (b:Bool):Obj:={ cls:=.type "zip",dict:=none,data:=.fields #[.ellipsis,.bool b,.bool false,.ref I,.ref O],slots:=#[] }
abbrev zRec (I O:Addr) (f:Value) (b:Bool):Obj:={ cls:=.type "zip",dict:=none,data:=.fields #[f,.bool b,.bool false,.ref I,.ref O],slots:=#[] }
theorem ofs_at1 {x:Value} {rest:List Value} {j:Nat} (er:((Zi.ofs js).map Value.ref).drop j=x::rest):∃ p,js[j]?=some p∧x=.ref p.2.1∧((Zi.ofs js).map Value.ref).drop (j+1)=rest:=by
 have h0:(((Zi.ofs js).map Value.ref).drop j)[0]?=some x:=by rw [er]; rfl
 rw [List.getElem?_drop,Nat.add_zero,List.getElem?_map] at h0
 obtain ⟨y,e4,e5⟩:=Option.map_eq_some_iff.mp h0
 unfold Zi.ofs at e4
 rw [List.getElem?_map] at e4
 obtain ⟨p,hp,e6⟩:=Option.map_eq_some_iff.mp e4
 exact ⟨p,hp,by rw [← e5,← e6],by rw [← List.drop_drop,er]; rfl⟩
theorem ZMp.put (D:ZA z I O js) {zo:Obj} {j k:Nat} {x:Value} {os:List Value} {h₀ h:Heap} (M:ZMp zo z O js i j h₀ h) (hk:k < js.length) (ho:cW h O os) (ol:os.length=js.length):ZMp zo z O js i j h₀ (h.update O (Obj.mapSeq (·.setIfInBounds k x))):=by
 have s2:Heap.SameBut O h (h.update O (Obj.mapSeq (·.setIfInBounds k x))):=Heap.SameBut.update ..
 refine ⟨s2.extBut _ _ D.zO M.hz,⟨os.set k x,by simp [ol],?_⟩,fun m p hm hp=>(M.ahead m p hm hp).to fun o e=>s2.extBut _ _ (D.zj (List.mem_of_getElem? hp)).2 e,fun m p hm hp=>(M.behind m p hm hp).to fun o e=>s2.extBut _ _ (D.zj (List.mem_of_getElem? hp)).2 e,fun c o hc e=>s2.extBut _ _ (fun q=>hc (by simp [q])) (M.keep c o hc e),by rw [s2.1]; exact M.sz⟩
 show Heap.get? _ _=_
 rw [Heap.get?_update_self _ ho rfl]
 simp [Obj.mapSeq]
theorem isEmp (h1:js≠[]):((Zi.ofs js).map Value.ref).toArray.isEmpty=false:=by
 cases js with
 | nil=>exact absurd rfl h1
 | cons p r=>rfl
theorem lz_item (D:ZA z I O js) (st:LSt z I O js i s.heap) {xs:List Value} (hl:xs.length=js.length) (h1:js≠[]) (h8:js.length≤8) (hv:∀ (j:Nat) (p:Zi) (x:Value),js[j]?=some p→xs[j]?=some x→∃ ys,p.1.Sq s.heap p.2.2 ys∧ys[i]?=some x) {Q:Value→Shared→Prop}
  (hQ:∀ h',LSt z I O js (i+1) h'→cW h' s.heap.objs.size xs→ZKeep z O js s.heap h'→Q (.ref s.heap.objs.size) { s with heap:=h' }) :
  wpAny (model prog w) A (Builtin.«zip.__next__» ⟨[.ref z],[]⟩) (fun r s'=>∃ v,r=.done (.ret v)∧Q v s') E s:=by
 obtain ⟨⟨f,b,hf,hz⟩,hI,⟨os,ol,hO⟩,at'⟩:=st
 have Iz:=D.Iz
 simp only [List.mem_cons,not_or] at Iz
 show wpAny _ _ (field (.ref z) 2 >>= _) _ _ s
 refine wpAny_bind (wpAny_field hz rfl (x:=.bool false) rfl ?_)
 show wpAny _ _ (field (.ref z) 3 >>= _) _ _ s
 refine wpAny_bind (wpAny_field hz rfl (x:=.ref I) rfl ?_)
 refine wpAny_bind (wpAny_seqItems hI rfl ?_)
 show wpAny _ _ (if (_:Array Value).isEmpty=true then _ else _) _ _ s
 rw [if_neg (by rw [isEmp h1]; exact Bool.false_ne_true)]
 show wpAny _ _ (Builtin.SmallTypes.ownedTupleIsFree (.ref z) >>= _) _ _ s
 refine wpAny_bind (owned_wp hz hf ?_ fun h₁ b' hz₁ hs₁=>?_)
 ·
  simp only [if_true]
  refine wpAny_bind (wpAny_rule (wpAny_bind (wpAny_field hz rfl (x:=.ref O) rfl ?_)))
  refine wpAny_bind (wpAny_setField_rec hz (by simp) fun h₁ hz₁ hs₁=>?_)
  have M0:ZMd (zEll I O b) z O js xs i 0 s.heap h₁:=by
   refine ⟨hz₁,⟨os,ol,hs₁.extBut _ _ (Ne.symm D.zO) hO,by simp⟩,fun m p hm=>by omega,fun m p _ hp=>(at' p (List.mem_of_getElem? hp)).to fun o e=>hs₁.extBut _ _ (D.zj (List.mem_of_getElem? hp)).1 e,fun c o hc e=>?_,hs₁.1⟩
   exact hs₁.extBut _ _ (fun q=>hc (by simp [q])) e
  refine wpAny_bind (wpAny_forIn_list _ (fun rest bb s1=>∃ j,((Zi.ofs js).map Value.ref).zipIdx.drop j=rest∧bb=(none,())∧j≤js.length∧ZMd (zEll I O b) z O js xs i j s.heap s1.heap∧s1={ s with heap:=s1.heap }) _ ?_ ?_ _ _ ⟨0,rfl,rfl,Nat.zero_le _,M0,rfl⟩)
  ·
   rintro x rest bb s1 ⟨j,er,rfl,hjl,M,es⟩
   obtain ⟨p,hp,rfl,e3⟩:=ofs_at er
   have jl:j < js.length:=(List.getElem?_eq_some_iff.mp hp).1
   obtain ⟨ys,sq,hy⟩:=hv j p xs[j] hp (List.getElem?_eq_getElem (by omega))
   have pm:p∈js:=List.mem_of_getElem? hp
   refine wpAny_bind (wpAny_onRaise ?_)
   show wpAny _ _ (Builtin.SmallTypes.nextOf (.ref p.2.1) >>= _) _ _ s1
   refine wpAny_bind (Sk.draw (M.behind j p (Nat.le_refl _) hp) (sq.to fun o e=>M.keep _ o (D.src p pm) e) hy fun h1 a1 k1=>wpAny_pure ?_)
   obtain ⟨os1,ol1,ho,ht⟩:=M.hO
   have ho1:cW h1 O os1:=k1.extBut _ _ (Ne.symm (D.zj pm).2) ho
   refine wpAny_bind (wpAny_seqItems ho1 rfl ?_)
   refine wpAny_bind (wpAny_updateSeq ho1 rfl ?_ (by simp; exact sz8 (by omega)) (by simp; exact Nat.le_trans (sz8 (by omega)) (Nat.le_succ _)))
   refine wpAny_bind (wpAny_letGo (wpAny_pure ?_))
   exact ⟨j+1,e3,rfl,jl,M.next D hp (List.getElem?_eq_getElem (by omega)) a1 k1 ol1 ho1 ht,by rw [es]⟩
  ·
   rintro bb s1 ⟨j,er,rfl,hjl,M,es⟩
   have jn:j=js.length:=by
    have:=congrArg List.length er
    simp [Zi.ofs] at this
    omega
   subst jn
   obtain ⟨os1,ol1,ho,ht⟩:=M.hO
   have eo:os1=xs:=by rw [List.take_of_length_le (by omega),List.take_of_length_le (by omega)] at ht; exact ht
   subst eo
   refine wpAny_bind (wpAny_seqItems ho rfl ?_)
   refine wpAny_bind (wpAny_newTuple ?_ (by simp; exact sz8 (by omega)))
   have hz1:=Heap.get?_push_of_some { cls:=.type "tuple",data:=.seq os1.toArray } M.hz
   show wpAny _ _ (Builtin.SmallTypes.ownedTupleHandOut (.ref z) (.ref s1.heap.objs.size) >>= _) _ _ { s1 with heap:=_ }
   refine wpAny_bind ?_
   unfold Builtin.SmallTypes.ownedTupleHandOut
   refine wpAny_bind (wpAny_setField_rec hz1 (by simp) fun h2 hz2 k2=>?_)
   refine wpAny_setField_rec hz2 (by simp) fun h3 hz3 k3=>?_
   replace hz3:IsZp h3 z I O (rawInt s1.heap.objs.size) false:=hz3
   have up:∀ c o,c≠z→s1.heap.get? c=some o→h3.get? c=some o:=fun c o n e=>k3.extBut _ _ n (k2.extBut _ _ n (Heap.get?_push_of_some _ e))
   have zl:z < s1.heap.objs.size:=Heap.lt_size M.hz
   have T:cW h3 s1.heap.objs.size os1:=k3.extBut _ _ (Nat.ne_of_gt zl) (k2.extBut _ _ (Nat.ne_of_gt zl) (Heap.get?_push_size _ rfl))
   have es1:=M.sz
   rw [es1] at hz3 T
   refine wpAny_pure ⟨_,rfl,?_⟩
   show Q (.ref s1.heap.objs.size) _
   rw [es1,es]
   refine hQ h3 ⟨⟨_,_,.inr ⟨_,rfl⟩,hz3⟩,up _ _ Iz.1 (M.keep _ _ D.Iz hI),⟨os1,ol1,up _ _ (Ne.symm D.zO) ho⟩,fun p hp=>?_⟩ T fun c o hc e=>up c o (fun q=>hc (by simp [q])) (M.keep c o hc e)
   obtain ⟨m,hm,e⟩:=List.mem_iff_getElem.mp hp
   exact (M.ahead m p hm (by rw [List.getElem?_eq_getElem hm,e])).to fun o q=>up _ o (D.zj hp).1 q
 ·
  simp only [Bool.false_eq_true,if_false]
  have M0:ZMp (zRec I O f b') z O js i 0 s.heap h₁:=by
   refine ⟨hz₁,⟨os,ol,hs₁.extBut _ _ (Ne.symm D.zO) hO⟩,fun m p hm=>by omega,fun m p _ hp=>(at' p (List.mem_of_getElem? hp)).to fun o e=>hs₁.extBut _ _ (D.zj (List.mem_of_getElem? hp)).1 e,fun c o hc e=>?_,hs₁.1⟩
   exact hs₁.extBut _ _ (fun q=>hc (by simp [q])) e
  refine wpAny_bind (forIn_arr _ (fun rest bb s1=>∃ j,((Zi.ofs js).map Value.ref).drop j=rest∧bb=(none,(xs.take j).toArray)∧j≤js.length∧ZMp (zRec I O f b') z O js i j s.heap s1.heap∧s1={ s with heap:=s1.heap }) _ ?_ ?_ _ _ ⟨0,by simp,by simp,Nat.zero_le _,M0,rfl⟩)
  ·
   rintro x rest bb s1 ⟨j,er,rfl,hjl,M,es⟩
   obtain ⟨p,hp,rfl,e3⟩:=ofs_at1 er
   have jl:j < js.length:=(List.getElem?_eq_some_iff.mp hp).1
   obtain ⟨ys,sq,hy⟩:=hv j p xs[j] hp (List.getElem?_eq_getElem (by omega))
   have pm:p∈js:=List.mem_of_getElem? hp
   refine wpAny_bind (wpAny_holding ?_)
   show wpAny _ _ (Builtin.SmallTypes.nextOf (.ref p.2.1) >>= _) _ _ s1
   refine wpAny_bind (Sk.draw (M.behind j p (Nat.le_refl _) hp) (sq.to fun o e=>M.keep _ o (D.src p pm) e) hy fun h1 a1 k1=>wpAny_pure ?_)
   refine wpAny_pure ⟨j+1,e3,?_,jl,M.next D hp a1 k1,by rw [es]⟩
   rw [List.take_succ,List.getElem?_eq_getElem (by omega)]
   simp
  ·
   rintro bb s1 ⟨j,er,rfl,hjl,M,es⟩
   have jn:j=js.length:=by
    have:=congrArg List.length er
    simp [Zi.ofs] at this
    omega
   subst jn
   rw [List.take_of_length_le (by omega)]
   obtain ⟨os1,ol1,ho⟩:=M.hO
   refine wpAny_bind (wpAny_newTuple ?_ (by simp; exact sz8 (by omega)))
   have es1:=M.sz
   refine wpAny_pure ⟨_,rfl,?_⟩
   show Q (.ref s1.heap.objs.size) _
   have up:∀ c o,s1.heap.get? c=some o→(s1.heap.push { cls:=.type "tuple",data:=.seq xs.toArray }).get? c=some o:=fun c o e=>Heap.get?_push_of_some _ e
   have T:cW (s1.heap.push { cls:=.type "tuple",data:=.seq xs.toArray }) s1.heap.objs.size xs:=Heap.get?_push_size _ rfl
   rw [es1] at T
   rw [es1,es]
   refine hQ _ ⟨⟨_,_,hf,up _ _ M.hz⟩,up _ _ (M.keep _ _ D.Iz hI),⟨os1,ol1,up _ _ ho⟩,fun p hp=>?_⟩ T fun c o hc e=>up c o (M.keep c o hc e)
   obtain ⟨m,hm,e⟩:=List.mem_iff_getElem.mp hp
   exact (M.ahead m p hm (by rw [List.getElem?_eq_getElem hm,e])).to fun o q=>up _ o q
theorem lz_stop (D:ZA z I O js) (st:LSt z I O js i s.heap) (h0:A.handled=none) (h1:js≠[]) (h8:js.length≤8) (Y:Zi→Array Value) (hv:∀ p∈js,p.1.Sq s.heap p.2.2 (Y p)) (he:∃ p∈js,(Y p)[i]?=none) {Q:Fin→Shared→Prop}
  (hE:∀ h' e,ZKeep z O js s.heap h'→(∃ o,h'.get? e=some o∧o.cls=.type "StopIteration")→E (.ref e) { s with heap:=h' }) :
  wpAny (model prog w) A (Builtin.«zip.__next__» ⟨[.ref z],[]⟩) Q E s:=by
 obtain ⟨⟨f,b,hf,hz⟩,hI,⟨os,ol,hO⟩,at'⟩:=st
 obtain ⟨p0,hp0,hn0⟩:=he
 obtain ⟨m0,hm0,em0⟩:=List.mem_iff_getElem.mp hp0
 show wpAny _ _ (field (.ref z) 2 >>= _) _ _ s
 refine wpAny_bind (wpAny_field hz rfl (x:=.bool false) rfl ?_)
 show wpAny _ _ (field (.ref z) 3 >>= _) _ _ s
 refine wpAny_bind (wpAny_field hz rfl (x:=.ref I) rfl ?_)
 refine wpAny_bind (wpAny_seqItems hI rfl ?_)
 show wpAny _ _ (if (_:Array Value).isEmpty=true then _ else _) _ _ s
 rw [if_neg (by rw [isEmp h1]; exact Bool.false_ne_true)]
 show wpAny _ _ (Builtin.SmallTypes.ownedTupleIsFree (.ref z) >>= _) _ _ s
 refine wpAny_bind (owned_wp hz hf ?_ fun h₁ b' hz₁ hs₁=>?_)
 ·
  simp only [if_true]
  refine wpAny_bind (wpAny_rule (wpAny_bind (wpAny_field hz rfl (x:=.ref O) rfl ?_)))
  refine wpAny_bind (wpAny_setField_rec hz (by simp) fun h₁ hz₁ hs₁=>?_)
  have M0:ZMp (zEll I O b) z O js i 0 s.heap h₁:=by
   refine ⟨hz₁,⟨os,ol,hs₁.extBut _ _ (Ne.symm D.zO) hO⟩,fun m p hm=>by omega,fun m p _ hp=>(at' p (List.mem_of_getElem? hp)).to fun o e=>hs₁.extBut _ _ (D.zj (List.mem_of_getElem? hp)).1 e,fun c o hc e=>?_,hs₁.1⟩
   exact hs₁.extBut _ _ (fun q=>hc (by simp [q])) e
  refine wpAny_bind (wpAny_forIn_list _ (fun rest bb s1=>∃ j,((Zi.ofs js).map Value.ref).zipIdx.drop j=rest∧bb=(none,())∧j≤js.length∧ZMp (zEll I O b) z O js i j s.heap s1.heap∧s1={ s with heap:=s1.heap }∧j≤m0) _ ?_ ?_ _ _ ⟨0,rfl,rfl,Nat.zero_le _,M0,rfl,Nat.zero_le _⟩)
  ·
   rintro x rest bb s1 ⟨j,er,rfl,hjl,M,es,hj0⟩
   obtain ⟨p,hp,rfl,e3⟩:=ofs_at er
   have jl:j < js.length:=(List.getElem?_eq_some_iff.mp hp).1
   have pm:p∈js:=List.mem_of_getElem? hp
   have sq:=hv p pm
   refine wpAny_bind (wpAny_onRaise ?_)
   show wpAny _ _ (Builtin.SmallTypes.nextOf (.ref p.2.1) >>= _) _ _ s1
   cases hy:(Y p)[i]? with
   | none =>
    refine wpAny_bind (Sk.drawE h0 (M.behind j p (Nat.le_refl _) hp) (sq.to fun o e=>M.keep _ o (D.src p pm) e) hy fun h1 e k1 ho=>?_)
    obtain ⟨oe,he,ce⟩:=ho
    have hz2:=k1 _ _ (Ne.symm (D.zj pm).1) M.hz
    have ne:e≠z:=fun x=>by subst x; rw [hz2] at he; cases he; simp at ce
    refine wpAny_setField_rec hz2 (by simp) fun h3 _ k3=>?_
    rw [es]
    refine hE h3 e (fun c o hc q=>?_) ⟨oe,k3.extBut _ _ ne he,ce⟩
    have hc':=hc
    simp only [List.mem_cons,not_or] at hc'
    exact k3.extBut _ _ hc'.1 (k1 _ _ (fun q=>hc'.2.2 (q ▸ fE pm)) (M.keep c o hc q))
   | some v =>
   have nj:j≠m0:=fun q=>by
    subst q
    rw [List.getElem?_eq_getElem jl,em0] at hp
    cases hp
    rw [hn0] at hy
    cases hy
   refine wpAny_bind (Sk.draw (M.behind j p (Nat.le_refl _) hp) (sq.to fun o e=>M.keep _ o (D.src p pm) e) hy fun h1 a1 k1=>wpAny_pure ?_)
   have M1:=M.next D hp a1 k1
   obtain ⟨os1,ol1,ho1⟩:=M1.hO
   refine wpAny_bind (wpAny_seqItems ho1 rfl ?_)
   refine wpAny_bind (wpAny_updateSeq ho1 rfl ?_ (by simp; exact sz8 (by omega)) (by simp; exact Nat.le_trans (sz8 (by omega)) (Nat.le_succ _)))
   refine wpAny_bind (wpAny_letGo (wpAny_pure ?_))
   refine ⟨j+1,e3,rfl,jl,M1.put D (List.getElem?_eq_some_iff.mp hp).1 ho1 ol1,by rw [es],by omega⟩
  ·
   rintro bb s1 ⟨j,er,rfl,hjl,M,es,hj0⟩
   have jn:j=js.length:=by
    have:=congrArg List.length er
    simp [Zi.ofs] at this
    omega
   omega
 ·
  simp only [Bool.false_eq_true,if_false]
  have M0:ZMp (zRec I O f b') z O js i 0 s.heap h₁:=by
   refine ⟨hz₁,⟨os,ol,hs₁.extBut _ _ (Ne.symm D.zO) hO⟩,fun m p hm=>by omega,fun m p _ hp=>(at' p (List.mem_of_getElem? hp)).to fun o e=>hs₁.extBut _ _ (D.zj (List.mem_of_getElem? hp)).1 e,fun c o hc e=>?_,hs₁.1⟩
   exact hs₁.extBut _ _ (fun q=>hc (by simp [q])) e
  refine wpAny_bind (forIn_arr _ (fun rest bb s1=>∃ j,((Zi.ofs js).map Value.ref).drop j=rest∧bb.1=none∧j≤js.length∧ZMp (zRec I O f b') z O js i j s.heap s1.heap∧s1={ s with heap:=s1.heap }∧j≤m0) _ ?_ ?_ _ _ ⟨0,by simp,rfl,Nat.zero_le _,M0,rfl,Nat.zero_le _⟩)
  ·
   rintro x rest bb s1 ⟨j,er,hbb,hjl,M,es,hj0⟩
   obtain ⟨p,hp,rfl,e3⟩:=ofs_at1 er
   have jl:j < js.length:=(List.getElem?_eq_some_iff.mp hp).1
   have pm:p∈js:=List.mem_of_getElem? hp
   have sq:=hv p pm
   refine wpAny_bind (wpAny_holding ?_)
   show wpAny _ _ (Builtin.SmallTypes.nextOf (.ref p.2.1) >>= _) _ _ s1
   cases hy:(Y p)[i]? with
   | none =>
    refine wpAny_bind (Sk.drawE h0 (M.behind j p (Nat.le_refl _) hp) (sq.to fun o e=>M.keep _ o (D.src p pm) e) hy fun h1 e k1 ho=>?_)
    rw [es]
    refine hE h1 e (fun c o hc q=>?_) ho
    have hc':=hc
    simp only [List.mem_cons,not_or] at hc'
    exact k1 _ _ (fun q=>hc'.2.2 (q ▸ fE pm)) (M.keep c o hc q)
   | some v =>
   have nj:j≠m0:=fun q=>by
    subst q
    rw [List.getElem?_eq_getElem jl,em0] at hp
    cases hp
    rw [hn0] at hy
    cases hy
   refine wpAny_bind (Sk.draw (M.behind j p (Nat.le_refl _) hp) (sq.to fun o e=>M.keep _ o (D.src p pm) e) hy fun h1 a1 k1=>wpAny_pure ?_)
   exact wpAny_pure ⟨j+1,e3,rfl,jl,M.next D hp a1 k1,by rw [es],by omega⟩
  ·
   rintro bb s1 ⟨j,er,hbb,hjl,M,es,hj0⟩
   have jn:j=js.length:=by
    have:=congrArg List.length er
    simp [Zi.ofs] at this
    omega
   omega
end
end L2
namespace L2
open PySem PySem.Spec PyProof.Rows PySem.Builtin.Str
theorem zip_no_len:typeLookup (.type "zip") "__len__"=pure none:=by rw [typeLookup_type,builtinLookup_eq_fast]; kernel_rfl
theorem zip_no_hint:typeLookup (.type "zip") "__length_hint__"=pure none:=by rw [typeLookup_type,builtinLookup_eq_fast]; kernel_rfl
section
variable {prog:Program} {w:World} {A:Around} {s:Shared} {R:Result→Shared→Prop} {z I O S:Addr} {js:List Zi}
structure LZ (z I O S:Addr) (js:List Zi) (Y:Zi→Array Value) (row:Nat→List Value) (i:Nat) (acc:Array Value) (h:Heap):Prop where
 st:LSt z I O js i h
 src:∀ p∈js,p.1.Sq h p.2.2 (Y p)
 lst:∃ c,h.get? S=some { cls:=.type "list",dict:=none,data:=.seq acc c,slots:=#[] }
 size:acc.size=i
 its:∀ m,m < i→∃ T,acc[m]?=some (.ref T)∧cW h T (row m)∧T∉z::O::Zi.ofs js∧S < T
theorem ZKeep.mono {h h':Heap} (k:ZKeep z O js h h') {c:Addr} {o:Obj} (hc:c∉z::O::Zi.ofs js) (e:h.get? c=some o):h'.get? c=some o:=k c o hc e
theorem fresh_ne {h:Heap} (st:LSt z I O js i h):h.objs.size∉z::O::Zi.ofs js:=fun hm=>by
 obtain ⟨f,b,_,hz⟩:=st.hz
 obtain ⟨os,_,hO⟩:=st.hO
 rcases List.mem_cons.mp hm with e | hm
 ·
  exact absurd (Heap.lt_size hz) (by rw [← e]; exact Nat.lt_irrefl _)
 rcases List.mem_cons.mp hm with e | hm
 ·
  exact absurd (Heap.lt_size hO) (by rw [← e]; exact Nat.lt_irrefl _)
 ·
  obtain ⟨p,hp,e⟩:=List.mem_map.mp hm
  obtain ⟨o,eo,_⟩:=(st.at' p hp).obj
  exact absurd (Heap.lt_size eo) (by rw [e]; exact Nat.lt_irrefl _)
theorem lz_loop (D:ZA z I O js) (hS:S∉z::I::O::Zi.ofs js) (hSs:∀ p∈js,p.2.2≠S) (h0:A.handled=none) (h1:js≠[]) (h8:js.length≤8) (Y:Zi→Array Value) (row:Nat→List Value) {n:Nat} (hn:n≤sizeLine) (hr:∀ m,m < n→(row m).length=js.length∧∀ (j:Nat) (p:Zi) (x:Value),js[j]?=some p→(row m)[j]?=some x→(Y p)[m]?=some x)
  (he:∃ p∈js,(Y p)[n]?=none) (res:Value):∀ (k i:Nat) (s:Shared) (acc:Array Value),n - i=k→i≤n→LZ z I O S js Y row i acc s.heap →
  (∀ h' acc',LZ z I O S js Y row n acc' h'∨True→(∃ c,h'.get? S=some { cls:=.type "list",dict:=none,data:=.seq acc' c,slots:=#[] })→acc'.size=n→(∀ m,m < n→∃ T,acc'[m]?=some (.ref T)∧cW h' T (row m)∧S < T)→(∀ c o,c∉S::z::O::Zi.ofs js→s.heap.get? c=some o→h'.get? c=some o)→R (.ok (.ret res)) { s with heap:=h' }) →
  codeAny (model prog w) A (.builtin "list.extend.loop" ⟨[.ref S,.ref z,res],[]⟩) R s:=by
 have nS:S∉z::O::Zi.ofs js:=fun q=>hS (by
  rcases List.mem_cons.mp q with e | q
  ·
   rw [e]; exact List.mem_cons_self
  ·
   exact List.mem_cons_of_mem _ (List.mem_cons_of_mem _ q))
 intro k
 induction k with
 | zero =>
  intro i s acc hk hi L hR
  have:i=n:=by omega
  subst this
  refine codeAny_builtin F.entry_extend_loop ?_
  rw [Around.under_plainId F.plain_extend_loop _]
  show wpAny _ A.in1 (pyNext (.ref z) >>= _) _ _ s
  obtain ⟨f,b,hf,hz⟩:=L.st.hz
  have ty:s.TypeIs (.ref z) "zip":=⟨_,hz,rfl⟩
  refine wpAny_bind ?_
  unfold pyNext
  refine wpAny_bind (wpAny_attempt (wpAny_callSpecial?_slot (name:=Str.ofString "__next__") ty F.slot_zip_next (wpAny_call_entry F.slot_zip_next ty F.entry_zip_next (lz_stop (A:=A.in1.in1) D L.st h0 h1 h8 Y L.src he fun h' e k he=>?_) (F.args_zip_next_1 _))))
  obtain ⟨o,ho,hc⟩:=he
  refine wpAny_bind (wpAny_isInstance (T:="StopIteration") (b:=true) ⟨o,ho,hc⟩ isSubtype_stop (wpAny_pure (wpAny_pure ?_)))
  obtain ⟨c,hc⟩:=L.lst
  refine hR h' acc (.inr trivial) ⟨c,k _ _ nS hc⟩ L.size (fun m hm=>?_) fun c o hc e=>k c o (fun q=>hc (List.mem_cons_of_mem _ q)) e
  obtain ⟨T,t1,t2,t3,t4⟩:=L.its m hm
  exact ⟨T,t1,k _ _ t3 t2,t4⟩
 | succ k ih =>
  intro i s acc hk hi L hR
  have lt:i < n:=by omega
  obtain ⟨rl,rv⟩:=hr i lt
  refine codeAny_builtin F.entry_extend_loop ?_
  rw [Around.under_plainId F.plain_extend_loop _]
  show wpAny _ A.in1 (pyNext (.ref z) >>= _) _ _ s
  obtain ⟨f,b,hf,hz⟩:=L.st.hz
  have ty:s.TypeIs (.ref z) "zip":=⟨_,hz,rfl⟩
  refine wpAny_bind ?_
  unfold pyNext
  refine wpAny_bind (wpAny_attempt (wpAny_callSpecial?_slot (name:=Str.ofString "__next__") ty F.slot_zip_next (wpAny_call_entry F.slot_zip_next ty F.entry_zip_next (lz_item D L.st rl h1 h8 (fun j p x hp hx=>⟨Y p,L.src p (List.mem_of_getElem? hp),rv j p x hp hx⟩) fun h' st' hT hk'=>wpAny_pure ?_) (F.args_zip_next_1 _))))
  obtain ⟨c,hc⟩:=L.lst
  have hc':=hk' _ _ nS hc
  have sl:S < s.heap.objs.size:=Heap.lt_size hc
  show wpAny _ A.in1 (updateSeq S (·.push (.ref s.heap.objs.size)) >>= _) _ _ { s with heap:=h' }
  refine wpAny_bind (wpAny_updateSeq hc' rfl (wpAny_pure ⟨plainId_quiet F.plain_extend_loop _,ih (i+1) _ (acc.push (.ref s.heap.objs.size)) (by omega) lt ?_ fun h'' acc' hz'' q1 q2 q3 q4=>?_⟩) (by rw [L.size]; omega) (by show (acc.push _).size≤sizeLine+1; rw [Array.size_push,L.size]; omega))
  ·
   have s2:Heap.SameBut S h' (h'.update S (Obj.mapSeq (·.push (.ref s.heap.objs.size)))):=Heap.SameBut.update ..
   have up:∀ c o,c≠S→h'.get? c=some o→(h'.update S (Obj.mapSeq (·.push (.ref s.heap.objs.size)))).get? c=some o:=fun c o n e=>s2.extBut _ _ n e
   have hS':=hS
   simp only [List.mem_cons,not_or] at hS'
   obtain ⟨⟨f',b',hf',hz'⟩,hI',⟨os,ol,hO'⟩,at'⟩:=st'
   refine ⟨⟨⟨f',b',hf',up _ _ (Ne.symm hS'.1) hz'⟩,up _ _ (Ne.symm hS'.2.1) hI',⟨os,ol,up _ _ (Ne.symm hS'.2.2.1) hO'⟩,fun p hp=>(at' p hp).to fun o e=>up _ o (fun q=>hS'.2.2.2 (q ▸ fE hp)) e⟩,fun p hp=>?_,⟨_,Heap.get?_update_self _ hc' rfl⟩,by rw [Array.size_push,L.size],fun m hm=>?_⟩
   ·
    exact ((L.src p hp).to fun o e=>hk' _ _ (D.src p hp) e).to fun o e=>up _ o (hSs p hp) e
   ·
    rcases Nat.lt_or_ge m i with g | g
    ·
     obtain ⟨T,t1,t2,t3,t4⟩:=L.its m g
     refine ⟨T,?_,up _ _ (Nat.ne_of_gt t4) (hk' _ _ t3 t2),t3,t4⟩
     rw [Array.getElem?_push_lt (by rw [L.size]; exact g),← Array.getElem?_eq_getElem]
     exact t1
    ·
     have:m=i:=by omega
     subst this
     refine ⟨s.heap.objs.size,?_,up _ _ (Nat.ne_of_gt sl) hT,fresh_ne L.st,sl⟩
     rw [← L.size,Array.getElem?_push_size]
  ·
   refine hR h'' acc' hz'' q1 q2 q3 fun c o hcc e=>q4 c o hcc ?_
   have hcc':=hcc
   simp only [List.mem_cons,not_or] at hcc'
   show (h'.update S _).get? c=some o
   exact (Heap.get?_update_other _ _ (fun h:S=c=>hcc'.1 h.symm)).trans (hk' c o (by simp only [List.mem_cons,not_or]; exact hcc'.2) e)
theorem lz_extend (D:ZA z I O js) (hS:S∉z::I::O::Zi.ofs js) (hSs:∀ p∈js,p.2.2≠S) (h0:A.handled=none) (h1:js≠[]) (h8:js.length≤8) (Y:Zi→Array Value) (row:Nat→List Value) {n c0:Nat} (hn:n≤sizeLine) (hr:∀ m,m < n→(row m).length=js.length∧∀ (j:Nat) (p:Zi) (x:Value),js[j]?=some p→(row m)[j]?=some x→(Y p)[m]?=some x)
  (he:∃ p∈js,(Y p)[n]?=none) (res:Value) (st:LSt z I O js 0 s.heap) (src:∀ p∈js,p.1.Sq s.heap p.2.2 (Y p)) (hl:s.heap.get? S=some { cls:=.type "list",data:=.seq #[] c0 })
  (hR:∀ h' acc',(∃ c,h'.get? S=some { cls:=.type "list",dict:=none,data:=.seq acc' c,slots:=#[] })→acc'.size=n→(∀ m,m < n→∃ T,acc'[m]?=some (.ref T)∧cW h' T (row m)∧S < T)→(∀ c o,c∉S::z::O::Zi.ofs js→s.heap.get? c=some o→h'.get? c=some o)→R (.ok (.ret res)) { s with heap:=h' }) :
  wpAny (model prog w) A.in1 (Builtin.List.listExtendWith (.ref S) (.ref z) res) (fun fin s'=>match fin with | .done f=>R (.ok f) s' | .again c'=>c'.quiet=true∧codeAny (model prog w) A c' R s') (fun e s'=>R (.error e) s') s:=by
 obtain ⟨f,b,hf,hz⟩:=id st.hz
 have ty:s.TypeIs (.ref z) "zip":=⟨_,hz,rfl⟩
 have hS':=hS
 simp only [List.mem_cons,not_or] at hS'
 unfold Builtin.List.listExtendWith
 refine wpAny_bind (wpAny_typeOf ty ?_)
 have e1:Builtin.List.listSameRef (.ref S) (.ref z)=false:=by simp [Builtin.List.listSameRef,hS'.1]
 have e2:(Value.type "zip" == Value.type "list")=false:=by decide
 have e3:(Value.type "zip" == Value.type "tuple")=false:=by decide
 simp only [e1,e2,e3,Bool.or_false,Bool.false_eq_true,if_false]
 refine wpAny_bind ?_
 have it:∀ {Q:Value→Shared→Prop} {E:Value→Shared→Prop},Q (.ref z) s→wpAny (model prog w) A.in1 (pyIter (.ref z)) Q E s:=fun {Q E} h=>by
  refine wpAny_pyIter_slot ty F.slot_zip_iter (wpAny_call_entry F.slot_zip_iter ty F.entry_zip_iter ?_ (F.args_zip_iter_1 _))
  show wpAny _ _ (ret (.ref z)) _ _ s
  exact wpAny_pure ⟨_,rfl,"zip",_,ty,F.slot_zip_next.lookup,h⟩
 refine it ?_
 refine wpAny_bind (wpAny_holding ?_)
 unfold Builtin.List.listLengthHint
 refine wpAny_bind (wpAny_specialOf ty zip_no_len ?_)
 show wpAny _ A.in1 (specialOf (.ref z) (Str.ofString "__length_hint__") >>= _) _ _ s
 refine wpAny_bind (wpAny_specialOf ty zip_no_hint ?_)
 refine wpAny_pure ?_
 show wpAny _ A.in1 (rule "list.extend.makes-room" >>= fun _=>Builtin.List.listTouch (.ref S) >>= fun _=>again (.builtin "list.extend.loop" ⟨[.ref S,.ref z,res],[]⟩)) _ _ s
 refine wpAny_bind (wpAny_rule (wpAny_bind ?_))
 show wpAny _ A.in1 (updateSeq S (·.push .none) >>= fun _=>updateSeq S (·.pop)) _ _ s
 refine wpAny_bind (wpAny_updateSeq hl rfl ?_)
 have l2:=Heap.get?_update_self (Obj.mapSeq (·.push Value.none)) hl rfl
 refine wpAny_updateSeq (hz:=by seq_fits) l2 rfl ?_
 have l3:=Heap.get?_update_self (Obj.mapSeq (·.pop)) l2 rfl
 have oth:∀ b o,b≠S→s.heap.get? b=some o→((s.heap.update S (Obj.mapSeq (·.push Value.none))).update S (Obj.mapSeq (·.pop))).get? b=some o:=fun b o hb e=>(Heap.get?_update_other _ _ (Ne.symm hb)).trans ((Heap.get?_update_other _ _ (Ne.symm hb)).trans e)
 refine wpAny_pure ⟨plainId_quiet F.plain_extend_loop _,lz_loop D hS hSs h0 h1 h8 Y row hn hr he res n 0 _ #[] rfl (Nat.zero_le _) ⟨⟨⟨f,b,hf,oth _ _ (Ne.symm hS'.1) hz⟩,oth _ _ (Ne.symm hS'.2.1) st.hI,?_,fun p hp=>(st.at' p hp).to fun o e=>oth _ o (fun q=>hS'.2.2.2 (q ▸ fE hp)) e⟩,fun p hp=>(src p hp).to fun o e=>oth _ o (hSs p hp) e,⟨_,l3⟩,rfl,fun m hm=>by omega⟩ fun h' acc' _ q1 q2 q3 q4=>hR h' acc' q1 q2 q3 fun c o hc e=>q4 c o hc (oth c o (fun q=>hc (by simp [q])) e)⟩
 obtain ⟨os,ol,hO⟩:=st.hO
 exact ⟨os,ol,oth _ _ (Ne.symm hS'.2.2.1) hO⟩
end
section
variable {prog:Program} {w:World} {A:Around} {E:Value→Shared→Prop} {s:Shared} {z I O:Addr} {js:List Zi}
theorem call_list_zip {Q:Value→Shared→Prop} (D:ZA z I O js) (h0:A.handled=none) (h1:js≠[]) (h8:js.length≤8) (Y:Zi→Array Value) (row:Nat→List Value) {n:Nat} (hn:n≤sizeLine) (hr:∀ m,m < n→(row m).length=js.length∧∀ (j:Nat) (p:Zi) (x:Value),js[j]?=some p→(row m)[j]?=some x→(Y p)[m]?=some x)
  (he:∃ p∈js,(Y p)[n]?=none) (st:LSt z I O js 0 s.heap) (src:∀ p∈js,p.1.Sq s.heap p.2.2 (Y p))
  (hQ:∀ h' acc',(∃ c,h'.get? s.heap.objs.size=some { cls:=.type "list",dict:=none,data:=.seq acc' c,slots:=#[] })→acc'.size=n→(∀ m,m < n→∃ T,acc'[m]?=some (.ref T)∧cW h' T (row m)∧s.heap.objs.size < T)→(∀ c o,c∉z::O::Zi.ofs js→s.heap.get? c=some o→h'.get? c=some o)→Q (.ref s.heap.objs.size) { s with heap:=h' }) :
  wpAny (model prog w) A (call (.type "list") [.ref z]) Q E s:=by
 have lt:∀ b∈z::I::O::Zi.ofs js,b < s.heap.objs.size:=fun b hb=>by
  obtain ⟨f,b0,_,hz⟩:=st.hz
  obtain ⟨os,_,hO⟩:=st.hO
  rcases List.mem_cons.mp hb with rfl | hb
  ·
   exact Heap.lt_size hz
  rcases List.mem_cons.mp hb with rfl | hb
  ·
   exact Heap.lt_size st.hI
  rcases List.mem_cons.mp hb with rfl | hb
  ·
   exact Heap.lt_size hO
  ·
   obtain ⟨p,hp,rfl⟩:=List.mem_map.mp hb
   obtain ⟨o,e,_⟩:=(st.at' p hp).obj
   exact Heap.lt_size e
 have slt:∀ p∈js,p.2.2 < s.heap.objs.size:=fun p hp=>by
  obtain ⟨o,e,_⟩:=(src p hp).obj
  exact Heap.lt_size e
 refine callType_codes (Q₁:=fun obj s₁=>obj=.ref s.heap.objs.size∧s₁={ s with heap:=s.heap.push { cls:=.type "list",data:=.seq #[] } }) F.called_list (F.typeCall_list_1 _) F.entry_list_init (code_list_new _ ⟨rfl,rfl⟩) fun obj s₁ h₁=>?_
 obtain ⟨rfl,rfl⟩:=h₁
 have hS:(s.heap.push { cls:=.type "list",data:=.seq #[] }).get? s.heap.objs.size=some { cls:=.type "list",data:=.seq #[] }:=Heap.get?_push_size _ rfl
 refine ⟨⟨_,hS,rfl⟩,F.args_list_init_2 _ _,?_⟩
 show wpAny _ A.in1.in1 (do let old ← Builtin.List.listItems (.ref s.heap.objs.size); Builtin.List.listUpdate (.ref s.heap.objs.size) (fun _=>#[]); letGo old.toList.reverse; Builtin.List.listExtendWith (.ref s.heap.objs.size) (.ref z) .none) _ _ { s with heap:=_ }
 refine wpAny_bind ?_
 unfold Builtin.List.listItems
 refine wpAny_bind (wpAny_seqItems hS rfl (wpAny_pure ?_))
 show wpAny _ A.in1.in1 (updateSeq s.heap.objs.size (fun _=>#[]) >>= fun _=>letGo (#[]:Array Value).toList.reverse >>= fun _=>Builtin.List.listExtendWith (.ref s.heap.objs.size) (.ref z) .none) _ _ { s with heap:=_ }
 refine wpAny_bind (wpAny_updateSeq hS rfl ?_)
 have hS2:=Heap.get?_update_self (Obj.mapSeq (fun _=>(#[]:Array Value))) hS rfl
 have oth:∀ b o,b≠s.heap.objs.size→s.heap.get? b=some o→((s.heap.push { cls:=.type "list",data:=.seq #[] }).update s.heap.objs.size (Obj.mapSeq (fun _=>(#[]:Array Value)))).get? b=some o:=fun b o hb e=>(Heap.get?_update_other _ _ (Ne.symm hb)).trans (Heap.get?_push_of_some _ e)
 refine wpAny_bind (wpAny_letGo ?_)
 obtain ⟨⟨f,b,hf,hz⟩,hI,⟨os,ol,hO⟩,at'⟩:=st
 have ne:∀ b∈z::I::O::Zi.ofs js,b≠s.heap.objs.size:=fun b hb=>Nat.ne_of_lt (lt b hb)
 refine lz_extend (A:=A.in1) D (fun q=>absurd (lt _ q) (Nat.lt_irrefl _)) (fun p hp=>Nat.ne_of_lt (slt p hp)) h0 h1 h8 Y row hn hr he .none ⟨⟨f,b,hf,oth _ _ (ne _ (by simp)) hz⟩,oth _ _ (ne _ (by simp)) hI,⟨os,ol,oth _ _ (ne _ (by simp)) hO⟩,fun p hp=>(at' p hp).to fun o e=>oth _ o (ne _ (by simp [fE hp])) e⟩ (fun p hp=>(src p hp).to fun o e=>oth _ o (Nat.ne_of_lt (slt p hp)) e) hS2 fun h' acc' q1 q2 q3 q4=>?_
 refine ⟨rfl,hQ h' acc' q1 q2 q3 fun c o hc e=>?_⟩
 have hcl:c≠s.heap.objs.size:=Nat.ne_of_lt (Heap.lt_size e)
 exact q4 c o (by simp only [List.mem_cons,not_or] at hc ⊢; exact ⟨hcl,hc⟩) (oth c o hcl e)
end
end L2
namespace L2
open PySem PySem.Spec PyProof.Rows PySem.Builtin.Str
section
variable {K:PySem.W.Frag} {Pr H H':Hp} {σ:St} {ρ:Ev}
theorem REnv.more (E:REnv K Pr H σ ρ) (k:∀ b u,H b=some u→H' b=some u):REnv K Pr H' σ ρ :=
 ⟨fun b u e=>k b u (E.sub b u e),E.nd,E.off,Paired.impMem E.sl fun l hl s q=>q.pres (fun b u _ e=>k b u e) l fun a e=>by
  obtain ⟨vs,e⟩:=E.at_own (fu.mpr ⟨l,hl,e⟩)
  rw [k _ _ e,e]⟩
theorem REnv.own_more (E:REnv K Pr H σ ρ) (k:∀ b u,H b=some u→H' b=some u) {p:Addr} {vs:List V} {xs:List D} (h:H p=none) (h':H' p=some (.lst vs)) (r:Reps K H' vs xs):REnv K Pr H' (some (.ref p)::σ) (.own p xs::ρ):=by
 have E':=E.more k
 refine ⟨E'.sub,?_,fun a ha=>?_,.cons ⟨rfl,vs,h',r⟩ E'.sl⟩
 ·
  rw [aG]
  refine List.nodup_cons.mpr ⟨fun hm=>?_,E.nd⟩
  obtain ⟨us,e⟩:=E.at_own hm
  rw [h] at e; cases e
 ·
  rw [aG] at ha
  rcases List.mem_cons.mp ha with rfl | ha
  ·
   cases q:Pr a with
   | none=>rfl
   | some u=>rw [E.sub a u q] at h; cases h
  ·
   exact E.off a ha
end
open Classical in
noncomputable def laidT (H:Hp) (m:Nat) (S n:Nat) (T:Nat→Addr) (vs:List V) (row:Nat→List V):Hp:=fun b =>
 if b < m then H b else if b=S then some (.lst vs) else if h:∃ k,k < n∧T k=b then some (.tup (row (Classical.choose h))) else none
section
variable {X:Cx} {pins:List (Addr×Obj)} {σ:St} {H:Hp} {s:Shared}
open Classical in
theorem laidT_tup {m S n:Nat} {T:Nat→Addr} {vs:List V} {row:Nat→List V} {us:Nat→List Value} {h':Heap} (hT:∀ k,k < n→m≤T k∧T k≠S∧cW h' (T k) (us k)) (hv:∀ k,k < n→Vals (row k) (us k)) {k:Nat} (hk:k < n):laidT H m S n T vs row (T k)=some (.tup (row k)):=by
 obtain ⟨h1,h2,h3⟩:=hT k hk
 have ex:∃ j,j < n∧T j=T k:=⟨k,hk,rfl⟩
 unfold laidT
 rw [if_neg (Nat.not_lt.mpr h1),if_neg h2,dif_pos ex]
 obtain ⟨c1,c2⟩:=Classical.choose_spec ex
 have h4:=(hT _ c1).2.2
 rw [c2] at h4
 have e:us (Classical.choose ex)=us k:=by
  have:=h4.symm.trans h3
  simp only [Option.some.injEq,Obj.mk.injEq,Data.seq.injEq,true_and,and_true] at this
  exact List.toArray_inj this
 have v1:=hv _ c1
 rw [e] at v1
 rw [v1.inj (hv k hk)]
open Classical in
theorem Inv.laidT {h':Heap} {S n:Nat} {T:Nat→Addr} {vs:List V} {us:List Value} {row:Nat→List V} {ur:Nat→List Value} {c:Nat} (I:Inv X pins σ H s) (k:∀ b u,s.heap.get? b=some u→h'.get? b=some u) (hS:s.heap.objs.size≤S) (hl:h'.get? S=some { cls:=.type "list",data:=.seq us.toArray c }) (hz:vs.length≤sizeLine) (hv:Vals vs us)
  (hT:∀ k,k < n→s.heap.objs.size≤T k∧T k≠S∧cW h' (T k) (ur k)) (hr:∀ k,k < n→Vals (row k) (ur k)) (h8:∀ k,k < n→(row k).length≤sizeLine):Inv X pins σ (L2.laidT H s.heap.objs.size S n T vs row) { s with heap:=h' }:=by
 have old:∀ b u,H b=some u→L2.laidT H s.heap.objs.size S n T vs row b=some u:=fun b u e=>by
  unfold L2.laidT
  rw [if_pos (I.hok.lt e)]
  exact e
 have hSa:L2.laidT H s.heap.objs.size S n T vs row S=some (.lst vs):=by
  unfold L2.laidT
  rw [if_neg (Nat.not_lt.mpr hS),if_pos rfl]
 refine I.un (t':=s.toks) ⟨fun b o e _ _ _=>k b o e,fun b o e _ _ _=>⟨o.slots,k b o e⟩,fun b o e hn _=>?_,fun b o e _=>⟨o,k b o e⟩,fun b xs e=>old b _ e,fun b o u e=>old b _ e,fun b ps e=>⟨#[],by rw [old b _ e]; simp⟩⟩ fun b u e=>?_
 ·
  unfold L2.laidT
  rw [if_pos (Heap.lt_size e)]
  exact hn
 ·
  by_cases hb:b < s.heap.objs.size
  ·
   have e':H b=some u:=by unfold L2.laidT at e; rw [if_pos hb] at e; exact e
   exact (I.hok b u e').stay (fun c v _ q=>k c v q) (fun c q=>old c _ q) fun c xs q=>old c _ q
  ·
   by_cases hbS:b=S
   ·
    subst hbS
    rw [hSa] at e
    cases e
    exact ⟨hz,us,c,hv,hl⟩
   ·
    have e0:=e
    unfold L2.laidT at e0
    rw [if_neg hb,if_neg hbS] at e0
    split at e0
    ·
     rename_i ex
     obtain ⟨c1,c2⟩:=Classical.choose_spec ex
     have e3:=laidT_tup (H:=H) (vs:=vs) hT hr c1
     rw [c2] at e3
     rw [e3] at e
     cases e
     obtain ⟨_,_,q3⟩:=hT _ c1
     rw [c2] at q3
     exact ⟨h8 _ c1,_,hr _ c1,⟨_,q3,rfl,_,rfl⟩⟩
    ·
     cases e0
end
end L2
namespace L2
open PySem PySem.Spec PyProof.Rows PySem.Builtin.Str
theorem zst_lst {z I O:Addr} {js:List Zi} {i:Nat} {h:Heap} (st:ZSt z I O js .none i h):LSt z I O js i h:=⟨⟨.none,false,.inl rfl,st.hz⟩,st.hI,st.hO,st.at'⟩
def wLZip (t:W (List L)):W L:=fun ρ post=>t ρ fun ls ρ1=>match ls with
 | [.d d,.d d2]=>zipE d d2 fun zs=>zs.length≤sizeLine∧∀ a,post (.own a zs) ρ1
 | _=>False
section
variable {X:Cx} {a b:Expr} {es:List Expr} {pos p pos0 p0:Pos}
theorem get_row {xs ys:List Value} {m j:Nat} {k1 k2:Sk} {i1 i2 a1 a2:Addr} {Y:Zi→Array Value} {q:Zi} {x:Value} (h1:m < xs.length) (h2:m < ys.length) (e1:Y (k1,i1,a1)=xs.toArray) (e2:Y (k2,i2,a2)=ys.toArray) (hq:[(k1,i1,a1),(k2,i2,a2)][j]?=some q) (hx:[xs[m],ys[m]][j]?=some x):(Y q)[m]?=some x:=by
 match j with
 | 0 =>
  simp only [List.getElem?_cons_zero,Option.some.injEq] at hq hx
  subst hq hx
  rw [e1]
  simp [h1]
 | 1 =>
  simp only [List.getElem?_cons_succ,List.getElem?_cons_zero,Option.some.injEq] at hq hx
  subst hq hx
  rw [e2]
  simp [h2]
 | j+2=>simp at hq
theorem pl_listZip {bs:List (Option Nat)} {t:W (List L)} (hgl:Gl X "list") (hml:X.mg "list"=none) (hg:Gl X "zip") (hm:X.mg "zip"=none) (hc:X.calm=true) (ha:PAL X [a,b] bs t) (hs:starEach [a,b] X.env=(false,eval a X.env)::starEach [b] X.env:=by rfl) (hs2:(backTo pos (starEach [b] X.env)).any (·.1)=false:=by rfl)
  (hs0:starEach [.Call (.Name "zip" p) [a,b] [] pos] X.env=[(false,eval (.Call (.Name "zip" p) [a,b] [] pos) X.env)]:=by rfl) :
  PL X (.Call (.Name "list" p0) [.Call (.Name "zip" p) [a,b] [] pos] [] pos0) (wLZip t):=by
 intro pins s σ H Pr ρ post I E h
 refine wpAny_Call_Name_kw (ld_blt I hgl hml (show bootBuiltins "list"=some (.type "list") by decide +kernel) (PyProof.Rows.callWith_type1 ?_ (by rw [hs0]; rfl) rfl))
 rw [hs0]
 show wpAny _ _ (spliced ((false,eval (.Call (.Name "zip" p) [a,b] [] pos) X.env)::[])) _ _ s
 refine Calls.spliced_cons (Call_ (ld_blt I hg hm boot_zip (PyProof.Rows.callWith_type1 (thn (ha pos pins s σ H Pr ρ _ I E h) fun us s1 ⟨vs,H1,ls,ρ1,I1,r1,hl,hb,E1,_,q1⟩=>?_) hs hs2)))
 dsimp only at q1
 split at q1
 ·
  rename_i d d2
  obtain ⟨k1,xs,ed,q2⟩:=seqK_is q1
  obtain ⟨k2,ys,ed2,q3,q4⟩:=seqK_is q2
  subst ed ed2
  clear q1 q2
  match vs,hl with
  | [v,v2],_ =>
   have E1':REnv X.K Pr H1 (some v::some v2::σ) (.d (k1.mk xs)::.d (k2.mk ys)::ρ1):=E1
   obtain ⟨_,e1,p1⟩:=E1'.head_d
   cases e1
   obtain ⟨_,e1,p2⟩:=E1'.tail.head_d
   cases e1
   obtain ⟨a1,vs1,rfl,f1,rs1⟩:=Sk.rep p1
   obtain ⟨a2,vs2,rfl,f2,rs2⟩:=Sk.rep p2
   obtain ⟨u1,u2,rfl,ru,ru2⟩:=r1.two
   cases ru
   cases ru2
   obtain ⟨its,rv,sq1⟩:=I1.sqk (SqF.pres (fun _ _ _ e=>e) f1)
   obtain ⟨its2,rv2,sq2⟩:=I1.sqk (SqF.pres (fun _ _ _ e=>e) f2)
   have E2:REnv X.K Pr H1 σ ρ1:=E1'.tail.tail
   refine call_zipK2 sq1 sq2 fun h' st hk=>Calls.spliced_nil ?_
   have lt1:a1 < s1.heap.objs.size:=by obtain ⟨o,e,_⟩:=sq1.obj; exact Heap.lt_size e
   have lt2:a2 < s1.heap.objs.size:=by obtain ⟨o,e,_⟩:=sq2.obj; exact Heap.lt_size e
   have D:ZA (s1.heap.objs.size+4) (s1.heap.objs.size+2) (s1.heap.objs.size+3) [(k1,s1.heap.objs.size,a1),(k2,s1.heap.objs.size+1,a2)]:=by
    refine ⟨by simp [Zi.ofs],fun q hq=>?_⟩
    simp only [List.mem_cons,List.not_mem_nil,or_false] at hq
    rcases hq with rfl | rfl
    ·
     simp only [Zi.ofs,List.map_cons,List.map_nil,List.mem_cons,List.not_mem_nil,or_false,not_or]
     refine ⟨Nat.ne_of_lt (Nat.lt_add_right _ lt1),Nat.ne_of_lt (Nat.lt_add_right _ lt1),Nat.ne_of_lt lt1,Nat.ne_of_lt (Nat.lt_add_right _ lt1)⟩
    ·
     simp only [Zi.ofs,List.map_cons,List.map_nil,List.mem_cons,List.not_mem_nil,or_false,not_or]
     refine ⟨Nat.ne_of_lt (Nat.lt_add_right _ lt2),Nat.ne_of_lt (Nat.lt_add_right _ lt2),Nat.ne_of_lt lt2,Nat.ne_of_lt (Nat.lt_add_right _ lt2)⟩
   have l1:=rv.length
   have l2:=rv2.length
   have m1:=rs1.length
   have m2:=rs2.length
   have hsrc:∀ q∈[(k1,s1.heap.objs.size,a1),(k2,s1.heap.objs.size+1,a2)],∃ ys,q.1.Sq h' q.2.2 ys∧((q=(k1,s1.heap.objs.size,a1)→ys=its.toArray)∧(q=(k2,s1.heap.objs.size+1,a2)→ys=its2.toArray)):=fun q hq=>by
    simp only [List.mem_cons,List.not_mem_nil,or_false] at hq
    rcases hq with rfl | rfl
    ·
     exact ⟨_,sq1.to fun o e=>hk _ o e,fun _=>rfl,fun z=>by simp at z⟩
    ·
     exact ⟨_,sq2.to fun o e=>hk _ o e,fun z=>by simp at z,fun _=>rfl⟩
   obtain ⟨Y,hY⟩:=choose_on hsrc
   have y1:=(hY (k1,s1.heap.objs.size,a1) (by simp)).2.1 rfl
   have y2:=(hY (k2,s1.heap.objs.size+1,a2) (by simp)).2.2 rfl
   have zl:(zipD xs ys).length=min its.length its2.length:=by simp [zipD]; omega
   have sz':s1.heap.objs.size+5≤h'.objs.size:=Nat.succ_le_of_lt (Heap.lt_size st.hz)
   refine call_list_zip (s:={ s1 with heap:=h' }) D (I1.ok.hd hc) (by simp) (by simp) Y (fun m=>[its.getD m .none,its2.getD m .none]) (n:=min its.length its2.length) (by rw [← zl]; exact q3) (fun m hm=>⟨rfl,fun j q x hq hx=>?_⟩) ?_ (zst_lst st) (fun q hq=>(hY q hq).1) fun h2 acc hl2 hsz hT hk2=>?_
   ·
    have g1:m < its.length:=by omega
    have g2:m < its2.length:=by omega
    refine get_row g1 g2 y1 y2 hq ?_
    rw [List.getD_eq_getElem?_getD,List.getD_eq_getElem?_getD,List.getElem?_eq_getElem g1,List.getElem?_eq_getElem g2] at hx
    exact hx
   ·
    rcases Nat.le_total its.length its2.length with g | g
    ·
     exact ⟨_,List.mem_cons_self,by rw [y1,Nat.min_eq_left g]; simp⟩
    ·
     exact ⟨_,List.mem_cons_of_mem _ List.mem_cons_self,by rw [y2,Nat.min_eq_right g]; simp⟩
   obtain ⟨c,hl2⟩:=hl2
   obtain ⟨T,hT⟩:=choose_on (l:=List.range (min its.length its2.length)) (P:=fun m (T:Addr)=>acc[m]?=some (.ref T)∧cW h2 T [its.getD m .none,its2.getD m .none]∧h'.objs.size < T) fun m hm=>hT m (List.mem_range.mp hm)
   have kp:∀ b u,s1.heap.get? b=some u→h2.get? b=some u:=fun b u e=>hk2 b u (by
    have lb:b < s1.heap.objs.size:=Heap.lt_size e
    simp only [Zi.ofs,List.map_cons,List.map_nil,List.mem_cons,List.not_mem_nil,or_false,not_or]
    exact ⟨Nat.ne_of_lt (Nat.lt_add_right _ lb),Nat.ne_of_lt (Nat.lt_add_right _ lb),Nat.ne_of_lt lb,Nat.ne_of_lt (Nat.lt_add_right _ lb)⟩) (hk b u e)
   have hT':∀ m,m < min its.length its2.length→acc[m]?=some (.ref (T m))∧cW h2 (T m) [its.getD m .none,its2.getD m .none]∧h'.objs.size < T m:=fun m hm=>hT m (List.mem_range.mpr hm)
   have ea:acc=((List.range (min its.length its2.length)).map fun m=>Value.ref (T m)).toArray:=by
    refine Array.ext (by simp [hsz]) fun m g1 g2=>?_
    have g:m < min its.length its2.length:=by rw [← hsz]; exact g1
    have:=(hT' m g).1
    rw [Array.getElem?_eq_getElem g1] at this
    simpa using this
   subst ea
   have gr:∀ m,m < min its.length its2.length→Vals [vs1.getD m .non,vs2.getD m .non] [its.getD m .none,its2.getD m .none]:=fun m hm=>by
    have g1:m < vs1.length:=by omega
    have g2:m < vs2.length:=by omega
    obtain ⟨u1,e1,r1⟩:=rv.get (List.getElem?_eq_getElem g1)
    obtain ⟨u2,e2,r2⟩:=rv2.get (List.getElem?_eq_getElem g2)
    rw [List.getD_eq_getElem?_getD,List.getD_eq_getElem?_getD,List.getD_eq_getElem?_getD,List.getD_eq_getElem?_getD,e1,e2,List.getElem?_eq_getElem g1,List.getElem?_eq_getElem g2]
    exact .cons r1 (.cons r2 .nil)
   have tt:∀ m,m < min its.length its2.length→s1.heap.objs.size≤T m∧T m≠h'.objs.size∧cW h2 (T m) [its.getD m .none,its2.getD m .none]:=fun m hm=>⟨Nat.le_trans (Nat.le_trans (Nat.le_add_right _ 5) sz') (Nat.le_of_lt (hT' m hm).2.2),Nat.ne_of_gt (hT' m hm).2.2,(hT' m hm).2.1⟩
   have I2:=I1.laidT (vs:=(List.range (min its.length its2.length)).map fun m=>V.ref (T m)) (row:=fun m=>[vs1.getD m .non,vs2.getD m .non]) kp (Nat.le_trans (Nat.le_add_right _ 5) sz') hl2 (by rw [List.length_map,List.length_range,← zl]; exact q3) (paired_map fun m _=>rfl) tt gr (fun m _=>(by show 2≤sizeLine; decide))
   have old:∀ b u,H1 b=some u→L2.laidT H1 s1.heap.objs.size h'.objs.size (min its.length its2.length) T ((List.range (min its.length its2.length)).map fun m=>V.ref (T m)) (fun m=>[vs1.getD m .non,vs2.getD m .non]) b=some u:=fun b u e=>by
    unfold L2.laidT
    rw [if_pos (I1.hok.lt e)]
    exact e
   refine ⟨.ref h'.objs.size,_,_,ρ1,I2,rfl,E2.own_more (vs:=(List.range (min its.length its2.length)).map fun m=>V.ref (T m)) old (I1.hok.fresh (Nat.le_trans (Nat.le_add_right _ 5) sz')) ?_ ?_,q4 _⟩
   ·
    unfold L2.laidT
    rw [if_neg (Nat.not_lt.mpr (Nat.le_trans (Nat.le_add_right _ 5) sz')),if_pos rfl]
   ·
    rw [← zip_range]
    have en:min xs.length ys.length=min its.length its2.length:=by omega
    rw [en]
    refine reps_map fun m hm=>?_
    have hm:=List.mem_range.mp hm
    have g1:m < xs.length:=by omega
    have g2:m < ys.length:=by omega
    refine .tup (SqT.of (laidT_tup tt gr hm)) ?_
    obtain ⟨w1,e1,r1⟩:=rs1.get (List.getElem?_eq_getElem g1)
    obtain ⟨w2,e2,r2⟩:=rs2.get (List.getElem?_eq_getElem g2)
    rw [List.getD_eq_getElem?_getD,List.getD_eq_getElem?_getD,List.getD_eq_getElem?_getD,List.getD_eq_getElem?_getD,e1,e2,List.getElem?_eq_getElem g1,List.getElem?_eq_getElem g2]
    exact .cons (r1.pres fun b u _ e=>old b u e) (.cons (r2.pres fun b u _ e=>old b u e) .nil)
 ·
  exact q1.elim
end
end L2
namespace L2
open PySem PySem.Spec PyProof.Rows PySem.Builtin.Str
section
variable {prog:Program} {w:World} {A:Around} {E:Value→Shared→Prop} {s:Shared}
end
section
variable {X:Cx} {es:List Expr} {pos:Pos}
def tgLst (is:List Nat):Tg:=fun x ρ k=>match x with
 | .lst xs=>ej is xs ρ k
 | _=>False
variable {e tg:Expr} {te:W L}
def wAsgL (is:List Nat) (te:W L):W Fl:=fun ρ post=>te ρ fun r ρ1=>toD r fun d=>tgLst is d ρ1 fun ρ2=>post .nx ρ2
end
end L2
namespace L2
open PySem PySem.Spec PyProof.Rows PySem.Builtin.Str
def ItR (K:PySem.W.Frag) (a:Addr) (xs:List V):It :=
 ⟨fun i H=>SqL K H a xs∧i < xs.length,fun i H v H'=>H'=H∧xs[xs.length - 1 - i]?=some v,fun i H=>SqL K H a xs∧i=xs.length⟩
theorem turn_rev {P:Program} {w:World} {K:PySem.W.Frag} {tg:Expr} (a j:Addr) (xs:List V):Turn P w K tg (ItR K a xs) [j] j (fun i h=>h.IsRevIter j a ((xs.length:Int) - 1 - i)) where
 mem:=by simp
 obj:=fun i h st b hb=>by
  have e:b=j:=by simpa using hb
  subst e
  obtain ⟨o,e,c,d⟩:=st
  exact ⟨o,e,fun v z=>by rw [d] at z; cases z⟩
 keep:=fun i h h' st k=>st.at fun o e=>k j (by simp) o e
 item:=by
  intro X hP hw hK hc i pins s σ H E I hf st hg
  subst hP hw hK
  obtain ⟨hq,hi⟩:=hg
  obtain ⟨its,rv,p,hz⟩:=I.list hq
  have hx:xs[xs.length - 1 - i]?=some (xs[xs.length - 1 - i]'(by omega)):=List.getElem?_eq_getElem _
  obtain ⟨u,hu,ru⟩:=rv.get hx
  obtain ⟨f0,f1,f2,f3,f4,f5⟩:=hf j (by simp)
  have ei:(xs.length:Int) - 1 - i=((xs.length - 1 - i:Nat):Int):=by omega
  rw [ei] at st
  refine wpAny_pyNext_rev_item st p.isList (x:=u) (by simpa using hu) fun h' st' sb=>?_
  have I1:Inv X pins σ H { s with heap:=h' }:=I.turned (t':=s.toks) (fun b o hb e=>(sb.2 b hb).trans e) f0 f1 f3 f4 f5
  obtain ⟨o,e,c,d⟩:=id st'
  have ei2:((xs.length - 1 - i:Nat):Int) - 1=(xs.length:Int) - 1 - ((i+1:Nat):Int):=by omega
  rw [ei2] at st'
  exact ⟨u,rfl,go_of (s:={ s with heap:=h' }) e c d (by decide) ⟨_,H,I1,ru,⟨rfl,hx⟩,st',fun b hb=>(hf b hb).1⟩⟩
 done:=by
  intro X hP hw hK hc i pins s σ H E I hf st hg
  subst hP hw hK
  obtain ⟨hq,hi⟩:=hg
  obtain ⟨f0,f1,f2,f3,f4,f5⟩:=hf j (by simp)
  have ei:(xs.length:Int) - 1 - i=-1:=by omega
  rw [ei] at st
  exact wpAny_pyNext_rev_end (I.ok.hd hc) st fun h' eb=>⟨rfl,I.turned (t':=s.toks) (fun b o hb e=>eb b o hb e) f0 f1 f3 f4 f5⟩
 self:=fun _ _ _ _ _ st h=>wpAny_pyIter_revIter st h
theorem gives_rev {K:PySem.W.Frag} {H:Hp} {a:Addr} {vs:List V} {xs:List D} (h:SqZ K H a vs) (r:Reps K H vs xs):Gives K H (ItR K a vs) xs.reverse:=fun H' p=>by
 have h':=(h.pres p).l
 refine ⟨fun i x e=>?_,h',by rw [List.length_reverse,r.length]⟩
 have hi:i < xs.length:=by simpa using (List.getElem?_eq_some_iff.mp e).1
 rw [List.getElem?_reverse hi] at e
 obtain ⟨v,ev,rv⟩:=r.get e
 refine ⟨⟨h',by rw [r.length]; exact hi⟩,fun w H2 ⟨e1,e2⟩=>?_⟩
 subst e1
 rw [r.length,ev] at e2
 cases e2
 exact ⟨.inl rfl,rv.pres p⟩
def wRevS (t:W L):W (List D):=fun ρ post=>t ρ fun r ρ1=>toD r fun d=>match d with
 | .lst xs=>post xs.reverse ρ1
 | _=>False
section
variable {X:Cx} {a tg:Expr} {es:List Expr} {pos p:Pos}
theorem pil_rev {t:W L} (hg:Gl X "reversed") (hm:X.mg "reversed"=none) (ha:PL X a t) (hs:starEach [a] X.env=[(false,eval a X.env)]:=by rfl):PIL X tg (.Call (.Name "reversed" p) [a] [] pos) (wRevS t):=by
 intro pins s σ H Pr ρ post I E h
 refine Call_ (ld_blt I hg hm (show bootBuiltins "reversed"=some (.type "reversed") by decide +kernel) (PyProof.Rows.callWith_type1 ?_ (by rw [hs]; rfl) rfl))
 rw [hs]
 show wpAny _ _ (spliced ((false,eval a X.env)::[])) _ _ s
 refine Calls.spliced_cons (thn (ha pins s σ H Pr ρ _ I E h) fun v s1 q=>Calls.spliced_nil ?_)
 obtain ⟨w,H1,d,ρ1,I1,r1,E1,q1⟩:=EL.frz (post:=fun d ρ1=>match d with
  | .lst xs=>post xs.reverse ρ1
  | _=>False) q
 obtain ⟨_,e1,p1⟩:=E1.head_d
 cases e1
 cases p1 with
 | @lst _ vs0 _ hz rs =>
  cases r1
  obtain ⟨its,rv,pl,_⟩:=I1.list hz.l
  have el:its.toArray.size=vs0.length:=by simp; exact rv.length.symm
  refine call_reversed_list pl.isList ?_
  rw [el]
  refine wpAny_pyIter_revIter (s:={ s1 with heap:=_ }) ⟨_,Heap.get?_push_size _ rfl,rfl,rfl⟩ ?_
  refine ⟨s1.heap.objs.size,[s1.heap.objs.size],_,_,H1,_,ρ1,rfl,I1.kept (t':=s1.toks) (fun b o e=>Heap.get?_push_of_some _ e),turn_rev _ _ _,⟨_,Heap.get?_push_size _ rfl,rfl,?_⟩,fun b hb=>?_,E1.tail,gives_rev hz rs,q1⟩
  ·
   rw [show ((vs0.length:Int) - 1 - ((0:Nat):Int))=(vs0.length:Int) - 1 by omega]
   rfl
  ·
   have e:b=s1.heap.objs.size:=by simpa using hb
   subst e
   exact I1.fpOk (Nat.le_refl _) (I1.hok.fresh (Nat.le_refl _))
 | _=>exact q1.elim
end
end L2
namespace L2
open PySem PySem.Spec PyProof.Rows
section
variable {X:Cx} {e:Expr} {pos:Pos} {t:W Fl}
theorem pm_try {body:List Stmt} {h0:ExceptHandler} {hs:List ExceptHandler} (hx:∀ e s,X.xe e s→False) (hb:PMs X body t):PM X (.Try body (h0::hs) [] [] pos) t:=fun pins s σ H Pr ρ post I E ht =>
 wpAny_Try_except (wpAny_mono (hb pins s σ H Pr ρ post I E ht) (fun f s1 q=>by
  cases f with
  | next=>exact wpAny_execs_nil q
  | brk=>exact q
  | cont=>exact q
  | ret v=>exact q) fun e s z=>(hx e s z).elim)
def augW:Option L→(Int→Prop)→Prop
 | some (.d (.int a)),k=>k a
 | _,_=>False
theorem augW_int (a:Int) (k:Int→Prop):augW (some (.d (.int a))) k=k a:=rfl
theorem augW_is {o:Option L} {k:Int→Prop} (h:augW o k):∃ a,o=some (.d (.int a))∧k a:=by
 unfold augW at h
 split at h
 ·
  exact ⟨_,rfl,h⟩
 ·
  exact h.elim
def wAug (i:Nat) (f:Int→Int→Int) (te:W L):W Fl:=fun ρ post=>augW ρ[i]? fun a=>te ρ fun r ρ1=>eU r fun b=>post .nx (ρ1.set i (.d (.int (f a b))))
theorem pm_aug {i:Nat} {x:Str} {te:W L} {pos':Pos} {op:Operator} {f:Int→Int→Int} (ho:PIp X op (ipI f)) (hN:X.N.Nodup) (hi:X.N[i]?=some x) (hx:Loc X.env.scope x) (he:PL X e te) (hf:X.fn x=true∨X.env.scope.names.lookup x=some .local:=by first | exact .inl rfl | exact .inr rfl | assumption) :
  PM X (.AugAssign (.Name x pos') op e pos) (wAug i f te):=by
 refine PM.of (ps_aug hN hi hx he.pe ho hf) fun σ H Pr ρ post hlen E h=>?_
 obtain ⟨a,q,h⟩:=augW_is h
 obtain ⟨sv,hs,v,rfl,r⟩:=E.slot q
 cases r
 refine ⟨_,hs,Pr,ρ,_,E,h,fun y H1 r ρ1 E1 p=>?_⟩
 obtain ⟨b,rfl,p⟩:=cI p
 obtain ⟨_,e1,p1⟩:=E1.head_d
 cases e1
 cases p1
 exact ⟨a,b,rfl,rfl,_,(E1.tail.cons_d (.int _)).store (by rw [hlen]; exact (List.getElem?_eq_some_iff.mp hi).1),p⟩
def wTru (i:Nat):W Bool:=fun ρ post=>ownV i ρ fun _ xs=>post (!xs.isEmpty) ρ
theorem pb_own (i:Nat) {x:Str} {p:Pos} (hN:X.N[i]?=some x:=by rfl) (hv:Vis X.env.scope x:=by first | exact Or.inl rfl | exact Or.inr (Or.inl rfl) | exact Or.inr (Or.inr rfl)) (hd:(x == ("__debug__" : Str))=false:=by decide)
  (hcd:(x == ("__classdict__" : Str))=false:=by decide) (he:∀ whole,isTrue (.Name x p) X.env whole=(do let v ← whole; standAt (Expr.Name x p).pos; holding [v] (truthy v)):=by intro _; rfl):PB X (.Name x p) (wTru i):=by
 intro pins s σ H Pr ρ post I E h
 obtain ⟨l,xs0,q0,h⟩:=dm h
 obtain ⟨hσ,vs0,hl0,r⟩:=E.ownAt q0
 have em:(!vs0.isEmpty)=!xs0.isEmpty:=by
  have:=r.length
  cases vs0 <;> cases xs0 <;> simp at this ⊢
 refine thn (pt_truth (dR hN hv hd hcd) he pins s σ H (fun b H'=>b=(!xs0.isEmpty)∧H'=H) I ⟨.ref l,hσ,_,.inl ⟨vs0,SqL.of hl0,rfl⟩,em,rfl⟩) fun b s1 ⟨H1,I1,e1,e2⟩=>?_
 subst e1 e2
 exact ⟨H1,ρ,I1,E,h⟩
end
end L2
namespace L2
open PySem
theorem forL_inv {g:Tg} {b:W Fl} {post:Fl→Ev→Prop}:∀ (xs:List D) (I:Nat→Ev→Prop) (ρ:Ev),I 0 ρ →
  (∀ j x ρ,xs[j]?=some x→I j ρ→∀ Q:Fl→Ev→Prop,(∀ ρ',I (j+1) ρ'→Q .nx ρ')→(∀ ρ',I (j+1) ρ'→Q .ct ρ')→(∀ ρ',post .nx ρ'→Q .bk ρ')→(∀ r ρ',post (.rt r) ρ'→Q (.rt r) ρ')→g x ρ fun ρ1=>b ρ1 Q) →
  (∀ ρ,I xs.length ρ→post .nx ρ)→dk g b xs ρ post
 | [],I,ρ,h0,_,fin=>fin ρ h0
 | x::xs,I,ρ,h0,step,fin=>by
  unfold dk
  refine step 0 x ρ rfl h0 _ (fun ρ' h=>?_) (fun ρ' h=>?_) (fun ρ' h=>h) (fun r ρ' h=>h)
  ·
   exact forL_inv xs (fun j=>I (j+1)) ρ' h (fun j y ρ e hi=>step (j+1) y ρ e hi) fin
  ·
   exact forL_inv xs (fun j=>I (j+1)) ρ' h (fun j y ρ e hi=>step (j+1) y ρ e hi) fin
theorem forT_inv {α:Type} {enc:α→D} {g:Tg} {b:W Fl} {post:Fl→Ev→Prop} (as:List α) (I:List α→Ev→Prop) (ρ:Ev) (h0:I [] ρ)
  (step:∀ pre a suf ρ,as=pre++a::suf→I pre ρ→∀ Q:Fl→Ev→Prop,(∀ ρ',I (pre++[a]) ρ'→Q .nx ρ')→(∀ ρ',I (pre++[a]) ρ'→Q .ct ρ')→(∀ ρ',post .nx ρ'→Q .bk ρ')→(∀ r ρ',post (.rt r) ρ'→Q (.rt r) ρ')→g (enc a) ρ fun ρ1=>b ρ1 Q)
  (fin:∀ ρ,I as ρ→post .nx ρ):dk g b (as.map enc) ρ post:=by
 refine forL_inv _ (fun j ρ=>I (as.take j) ρ) ρ h0 (fun j x ρ e hi Q h1 h2 h3 h4=>?_) fun ρ h=>fin ρ (by simpa using h)
 rw [List.getElem?_map] at e
 cases ea:as[j]? with
 | none=>rw [ea] at e; cases e
 | some a =>
  rw [ea] at e
  cases e
  obtain ⟨hj,ea'⟩:=List.getElem?_eq_some_iff.mp ea
  have es:as.take (j+1)=as.take j++[a]:=by rw [List.take_succ,ea]; rfl
  have ed:as=as.take j++a::as.drop (j+1):=by
   have:=(List.take_append_drop j as).symm
   rw [List.drop_eq_getElem_cons hj,ea'] at this
   exact this
  rw [es] at h1 h2
  exact step _ a _ ρ ed hi Q h1 h2 h3 h4
theorem comp_inv {g:Tg} {ti:W Bool} {te:W L} {k:List D→Ev→Prop}:∀ (xs:List D) (I:Nat→Ev→List D→Prop) (ρ:Ev) (acc:List D),I 0 ρ acc →
  (∀ j x ρ acc,xs[j]?=some x→I j ρ acc→∀ Q:Ev→List D→Prop,(∀ ρ' acc',I (j+1) ρ' acc'→Q ρ' acc')→g x ρ fun ρ1=>ti ρ1 fun b ρ2=>if b=true then te ρ2 fun r ρ3=>toD r fun y=>Q ρ3 (acc++[y]) else Q ρ2 acc) →
  (∀ ρ acc,I xs.length ρ acc→k acc ρ)→cV g ti te xs ρ acc k
 | [],I,ρ,acc,h0,_,fin=>fin ρ acc h0
 | x::xs,I,ρ,acc,h0,step,fin=>by
  unfold cV
  exact step 0 x ρ acc rfl h0 (fun ρ acc=>cV g ti te xs ρ acc k) fun ρ' acc' h=>comp_inv xs (fun j=>I (j+1)) ρ' acc' h (fun j y ρ acc e hi=>step (j+1) y ρ acc e hi) fin
theorem comp_pure {α:Type} {enc:α→D} {h:α→Option D} {caps:Ev} {ti:W Bool} {te:W L} {k:List D→Ev→Prop}:∀ (as:List α) (acc:List D) (l:L),
  (∀ a∈as,∀ Q:Ev→Option D→Prop,Q (.d (enc a)::caps) (h a)→ti (.d (enc a)::caps) fun b ρ2=>if b=true then te ρ2 fun r ρ3=>toD r fun y=>Q ρ3 (some y) else Q ρ2 none) →
  (∀ l',k (acc++as.filterMap h) (l'::caps))→cV (aK 0) ti te (as.map enc) (l::caps) acc k
 | [],acc,l,_,fin=>by have:=fin l; simpa [cV] using this
 | a::as,acc,l,step,fin=>by
  show cV (aK 0) ti te (enc a::as.map enc) (l::caps) acc k
  unfold cV
  show ti (.d (enc a)::caps) _
  refine step a List.mem_cons_self (fun ρ o=>match o with | some y=>cV (aK 0) ti te (as.map enc) ρ (acc++[y]) k | none=>cV (aK 0) ti te (as.map enc) ρ acc k) ?_
  cases e:h a with
  | none=>exact comp_pure as acc _ (fun b hb=>step b (List.mem_cons_of_mem _ hb)) (by simpa [List.filterMap_cons,e] using fin)
  | some y=>exact comp_pure as (acc++[y]) _ (fun b hb=>step b (List.mem_cons_of_mem _ hb)) (by simpa [List.filterMap_cons,e] using fin)
theorem bm {α:Type} {enc:α→D} {h:α→D} {caps:Ev} {te:W L} {k:List D→Ev→Prop} (as:List α) (acc:List D) (l:L)
  (step:∀ a∈as,∀ Q:Ev→D→Prop,Q (.d (enc a)::caps) (h a)→te (.d (enc a)::caps) fun r ρ3=>toD r fun y=>Q ρ3 y)
  (fin:∀ l',k (acc++as.map h) (l'::caps)):cV (aK 0) b6 te (as.map enc) (l::caps) acc k:=by
 refine comp_pure (h:=fun a=>some (h a)) as acc l (fun a ha Q q=>?_) (by simpa using fin)
 simp only [b6,if_true]
 exact step a ha (fun ρ y=>Q ρ (some y)) q
theorem comp_pure2 {α:Type} {e1 e2:α→D} {h:α→Option D} {caps:Ev} {ti:W Bool} {te:W L} {k:List D→Ev→Prop}:∀ (as:List α) (acc:List D) (l m:L),
  (∀ a∈as,∀ Q:Ev→Option D→Prop,Q (.d (e1 a)::.d (e2 a)::caps) (h a)→ti (.d (e1 a)::.d (e2 a)::caps) fun b ρ2=>if b=true then te ρ2 fun r ρ3=>toD r fun y=>Q ρ3 (some y) else Q ρ2 none) →
  (∀ l' m',k (acc++as.filterMap h) (l'::m'::caps))→cV (dj [0,1]) ti te (as.map fun a=>D.tup [e1 a,e2 a]) (l::m::caps) acc k
 | [],acc,l,m,_,fin=>by have:=fin l m; simpa [cV] using this
 | a::as,acc,l,m,step,fin=>by
  show cV (dj [0,1]) ti te (D.tup [e1 a,e2 a]::as.map fun a=>D.tup [e1 a,e2 a]) (l::m::caps) acc k
  unfold cV
  show ti (.d (e1 a)::.d (e2 a)::caps) _
  refine step a List.mem_cons_self (fun ρ o=>match o with | some y=>cV (dj [0,1]) ti te (as.map fun a=>D.tup [e1 a,e2 a]) ρ (acc++[y]) k | none=>cV (dj [0,1]) ti te (as.map fun a=>D.tup [e1 a,e2 a]) ρ acc k) ?_
  cases e:h a with
  | none=>exact comp_pure2 as acc _ _ (fun b hb=>step b (List.mem_cons_of_mem _ hb)) (by simpa [List.filterMap_cons,e] using fin)
  | some y=>exact comp_pure2 as (acc++[y]) _ _ (fun b hb=>step b (List.mem_cons_of_mem _ hb)) (by simpa [List.filterMap_cons,e] using fin)
theorem comp_map2 {α:Type} {e1 e2:α→D} {h:α→D} {caps:Ev} {te:W L} {k:List D→Ev→Prop} (as:List α) (acc:List D) (l m:L)
  (step:∀ a∈as,∀ Q:Ev→D→Prop,Q (.d (e1 a)::.d (e2 a)::caps) (h a)→te (.d (e1 a)::.d (e2 a)::caps) fun r ρ3=>toD r fun y=>Q ρ3 y)
  (fin:∀ l' m',k (acc++as.map h) (l'::m'::caps)):cV (dj [0,1]) b6 te (as.map fun a=>D.tup [e1 a,e2 a]) (l::m::caps) acc k:=by
 refine comp_pure2 (h:=fun a=>some (h a)) as acc l m (fun a ha Q q=>?_) (by simpa using fin)
 simp only [b6,if_true]
 exact step a ha (fun ρ y=>Q ρ (some y)) q
theorem atI_0 {α:Type} {x:α} {xs:List α}:atI (x::xs) 0=some x:=ft (j:=0) rfl
theorem atI_1 {α:Type} {x y:α} {xs:List α}:atI (x::y::xs) 1=some y:=ft (j:=1) rfl
theorem atI_2 {α:Type} {x y z:α} {xs:List α}:atI (x::y::z::xs) 2=some z:=ft (j:=2) rfl
theorem atI_3 {α:Type} {x y z w:α} {xs:List α}:atI (x::y::z::w::xs) 3=some w:=ft (j:=3) rfl
theorem atI_4 {α:Type} {x y z w v:α} {xs:List α}:atI (x::y::z::w::v::xs) 4=some v:=ft (j:=4) rfl
theorem atI_of {α:Type} {xs:List α} {i:Int} {x:α} (h0:0≤i) (h:xs[i.toNat]?=some x):atI xs i=some x:=by
 have:=ft h
 rwa [Int.toNat_of_nonneg h0] at this
theorem et {α:Type} {f:α→D} {xs:List α} {k:Nat} (h:k < xs.length):atI (xs.map f) (k:Int)=some (f xs[k]):=ft (by rw [List.getElem?_map,List.getElem?_eq_getElem h]; rfl)
theorem ix30:ixN 3 0=some 0:=by decide
theorem ix31:ixN 3 1=some 1:=by decide
theorem ix32:ixN 3 2=some 2:=by decide
theorem rngD_map (n:Nat):rngD 0 n=(List.range n).map fun (i:Nat)=>D.int (i:Int):=by
 unfold rngD
 simp
theorem forR_inv {g:Tg} {b:W Fl} {post:Fl→Ev→Prop} (lo:Int) (n:Nat) (I:Nat→Ev→Prop) (ρ:Ev) (h0:I 0 ρ)
  (step:∀ j ρ,j < n→I j ρ→∀ Q:Fl→Ev→Prop,(∀ ρ',I (j+1) ρ'→Q .nx ρ')→(∀ ρ',I (j+1) ρ'→Q .ct ρ')→(∀ ρ',post .nx ρ'→Q .bk ρ')→(∀ r ρ',post (.rt r) ρ'→Q (.rt r) ρ')→g (.int (lo+(j:Int))) ρ fun ρ1=>b ρ1 Q)
  (fin:∀ ρ,I n ρ→post .nx ρ):dk g b (rngD lo n) ρ post:=by
 have hl:(rngD lo n).length=n:=by simp [rngD]
 refine forL_inv _ I ρ h0 (fun j x ρ hj hi Q h1 h2 h3 h4=>?_) fun ρ h=>fin ρ (by rwa [hl] at h)
 have hj':j < n:=by rw [← hl]; exact (List.getElem?_eq_some_iff.mp hj).1
 have e:x=.int (lo+(j:Int)):=by
  unfold rngD at hj
  rw [List.getElem?_map,List.getElem?_range hj'] at hj
  exact (Option.some.inj hj).symm
 subst e
 exact step j ρ hj' hi Q h1 h2 h3 h4
theorem forR0_inv {g:Tg} {b:W Fl} {post:Fl→Ev→Prop} (n:Nat) (I:Nat→Ev→Prop) (ρ:Ev) (h0:I 0 ρ)
  (step:∀ j ρ,j < n→I j ρ→∀ Q:Fl→Ev→Prop,(∀ ρ',I (j+1) ρ'→Q .nx ρ')→(∀ ρ',I (j+1) ρ'→Q .ct ρ')→(∀ ρ',post .nx ρ'→Q .bk ρ')→(∀ r ρ',post (.rt r) ρ'→Q (.rt r) ρ')→g (.int (j:Int)) ρ fun ρ1=>b ρ1 Q)
  (fin:∀ ρ,I n ρ→post .nx ρ):dk g b (rngD 0 n) ρ post :=
 forR_inv 0 n I ρ h0 (fun j ρ hj hi Q h1 h2 h3 h4=>by rw [Int.zero_add]; exact step j ρ hj hi Q h1 h2 h3 h4) fin
theorem a6 {i:Int} (h:i.natAbs < 2 ^ 200):bM i:=Nat.lt_of_lt_of_le h (Nat.pow_le_pow_right (by decide) (by decide))
theorem cJ {i:Int} {n:Nat} (h:i.natAbs < 2 ^ n) (hn:n≤1000000):bM i:=Nat.lt_of_lt_of_le h (Nat.pow_le_pow_right (by decide) hn)
theorem fF (x:Int) {m:Int} (h:0 < m):0≤x.fmod m∧x.fmod m < m:=by
 rw [Int.fmod_eq_emod_of_nonneg _ (by omega)]
 exact ⟨Int.emod_nonneg _ (by omega),Int.emod_lt_of_pos _ h⟩
theorem bits_le {i:Int} {n:Nat} (h0:0≤i) (h:i < 2 ^ n) (hn:n≤1000000):bM i:=by
 have:i.natAbs < 2 ^ n:=by
  have e:((2 ^ n:Nat):Int)=(2:Int) ^ n:=by simp
  omega
 exact Nat.lt_of_lt_of_le this (Nat.pow_le_pow_right (by decide) hn)
theorem ten60:(10:Int) ^ 60 < 2 ^ 200:=by decide
theorem small9000 {i:Int} (h0:0≤i) (h:i≤10 ^ 60):i.natAbs < 2 ^ 9000:=by
 have:i.natAbs < 2 ^ 200:=by
  have:=ten60
  have e:((2 ^ 200:Nat):Int)=(2:Int) ^ 200:=by decide
  omega
 exact Nat.lt_of_lt_of_le this (Nat.pow_le_pow_right (by decide) (by decide))
theorem RB.sub {m n:Nat} {p q:Rat} (hp:RB m p) (hq:RB n q):RB (m+n+1) (p - q):=by
 rw [Rat.sub_eq_add_neg]
 exact hp.add hq.neg
theorem mul_eq (p q:Rat):Rat.divInt (p.num*q.num) ((p.den:Int)*(q.den:Int))=p*q:=by
 rw [← Rat.divInt_mul_divInt,Rat.num_divInt_den,Rat.num_divInt_den]
theorem RB.of_divInt {t b:Int} {n:Nat} (h:b≠0) (ht:t.natAbs < 2 ^ n) (hb:b.natAbs < 2 ^ n):RB n (Rat.divInt t b):=⟨Nat.lt_of_le_of_lt (num_le h) ht,Nat.lt_of_le_of_lt (den_le h) hb⟩
theorem dens_ne (p q:Rat):((p.den:Int)*(q.den:Int))≠0:=by
 have dp:=den_pos p
 have dq:=den_pos q
 exact Int.mul_ne_zero (by omega) (by omega)
theorem dens_abs (p q:Rat):((p.den:Int)*(q.den:Int)).natAbs=p.den*q.den:=by rw [Int.natAbs_mul,Int.natAbs_natCast,Int.natAbs_natCast]
theorem RB.mul {m n:Nat} {p q:Rat} (hp:RB m p) (hq:RB n q):RB (m+n) (p*q):=by
 rw [← mul_eq]
 exact RB.of_divInt (dens_ne p q) (by rw [Int.natAbs_mul]; exact aS hp.1 hq.1) (by rw [dens_abs]; exact aS hp.2 hq.2)
theorem num_ne {q:Rat} (h:q≠0):q.num≠0:=fun z=>h (Rat.num_eq_zero.mp z)
theorem den_neI (q:Rat):(q.den:Int)≠0:=by have:=den_pos q; omega
theorem div_eq (p:Rat) {q:Rat} (h:q≠0):Rat.divInt (p.num*(q.den:Int)) ((p.den:Int)*q.num)=p / q:=by
 rw [Rat.div_def,← Rat.divInt_mul_divInt,Rat.num_divInt_den]
 congr 1
 conv=>rhs; rw [← Rat.num_divInt_den q,Rat.inv_divInt]
theorem RB.div {m n:Nat} {p q:Rat} (hp:RB m p) (hq:RB n q) (h:q≠0):RB (m+n) (p / q):=by
 rw [← div_eq p h]
 refine RB.of_divInt (Int.mul_ne_zero (den_neI p) (num_ne h)) ?_ ?_
 ·
  rw [Int.natAbs_mul]; exact aS hp.1 (by simpa using hq.2)
 ·
  rw [Int.natAbs_mul]; exact aS (by simpa using hp.2) hq.1
theorem RB.zero:RB 1 0:=⟨by decide,by decide⟩
theorem lt_eq (p q:Rat):decide (p.num*(q.den:Int) < q.num*(p.den:Int))=decide (p < q):=by
 rw [decide_eq_decide,Rat.lt_iff]
structure Ask where
 nm:Str
 one:Nat
 other:Nat
 size:Rat
structure Ring where
 rooms:List Rat
 asks:List Ask
def Ring.n (R:Ring):Nat:=R.rooms.length
def askD (a:Ask):D:=.tup [.str a.nm,.int a.one,.int a.other,frD a.size]
def aR (R:Ring):D:=.tup [.lst (R.rooms.map frD),.lst (R.asks.map askD)]
theorem num_eq (q:Rat):(q.num:Rat)=q*(q.den:Rat):=by
 have h:=Rat.num_divInt_den q
 have hd:(q.den:Rat)≠0:=fun w=>by
  have:=Rat.natCast_pos.mpr q.den_pos
  rw [w] at this
  exact absurd this (by decide)
 rw [Rat.divInt_eq_div] at h
 have e:(((q.den:Nat):Int):Rat)=(q.den:Rat):=rfl
 rw [e] at h
 have e2:q*(q.den:Rat)=(q.num:Rat) / (q.den:Rat)*(q.den:Rat):=by rw [h]
 rw [e2,Rat.div_mul_cancel hd]
theorem num_lt_of {q:Rat} {V:Nat} (h0:0≤q) (hv:q < (V:Rat)):q.num.natAbs < V*q.den:=by
 have hd:(0:Rat) < (q.den:Rat):=Rat.natCast_pos.mpr q.den_pos
 have h1:q*(q.den:Rat) < (V:Rat)*(q.den:Rat):=Rat.mul_lt_mul_of_pos_right hv hd
 rw [← num_eq] at h1
 have h2:((q.num:Int):Rat) < (((V*q.den:Nat):Int):Rat):=by
  have e:(((V*q.den:Nat):Int):Rat)=(V:Rat)*(q.den:Rat):=by
   push_cast
   rfl
  rw [e]; exact h1
 have h3:q.num < ((V*q.den:Nat):Int):=Rat.intCast_lt_intCast.mp h2
 have h4:0≤q.num:=Rat.num_nonneg.mpr h0
 omega
theorem RB.of_val {q:Rat} {d v:Nat} (h0:0≤q) (hd:q.den < 2 ^ d) (hv:q < ((2 ^ v:Nat):Rat)):RB (v+d) q:=by
 refine ⟨Nat.lt_of_lt_of_le (num_lt_of h0 hv) ?_,Nat.lt_of_lt_of_le hd (Nat.pow_le_pow_right (by decide) (by omega))⟩
 rw [Nat.pow_add]
 exact Nat.mul_le_mul_left _ (Nat.le_of_lt hd)
structure AskOk (n:Nat) (a:Ask):Prop where
 one:a.one < n
 other:a.other < n
 ne:a.one≠a.other
 size:0≤a.size
 lt:a.size < ((2 ^ 300:Nat):Rat)
 nm:PyData.strOk a.nm=true
structure Ring.Ok (R:Ring):Prop where
 lo:2≤R.n
 hi:R.n≤12
 few:R.asks.length≤20
 room:∀ q∈R.rooms,0 < q∧RB 60 q
 ask:∀ a∈R.asks,AskOk R.n a
 cd:∃ D:Nat,0 < D∧D < 2 ^ 1240∧∀ a∈R.asks,a.size.den∣D
theorem Ring.Ok.rb {R:Ring} (h:R.Ok) {a:Ask} (ha:a∈R.asks):RB 1540 a.size:=by
 obtain ⟨D,d0,d1,hd⟩:=h.cd
 exact RB.of_val (v:=300) (d:=1240) (h.ask a ha).size (Nat.lt_of_le_of_lt (Nat.le_of_dvd d0 (hd a ha)) d1) (h.ask a ha).lt
theorem okDs_map {α:Type} {n:Nat} {f:α→D}:∀ xs:List α,(∀ x∈xs,okD n (f x)=true)→okDs n (xs.map f)=true
 | [],_=>rfl
 | x::xs,h=>by simp [okDs,h x List.mem_cons_self,okDs_map xs fun y hy=>h y (List.mem_cons_of_mem _ hy)]
def StOk (xs:List D):Prop:=∃ (c sd:Int) (t:Bool),xs=[.int c,.int sd,.bl t]∧0≤sd∧sd < 2147483647
theorem low_pair {t b g:Int} (h:b≠0) (e:g=bO t b):D.tup [.int (t.fdiv g),.int (b.fdiv g)]=frD (Rat.divInt t b):=by
 subst e
 rw [low_num h,low_den h]
 rfl
def denP (qs:List Rat):Nat:=(qs.map (·.den)).foldr (·*·) 1
theorem denP_pos:∀ qs:List Rat,0 < denP qs
 | []=>Nat.one_pos
 | a::t=>Nat.mul_pos (den_pos a) (denP_pos t)
def sumQ (qs:List Rat):Rat:=qs.foldl (·+·) 0
theorem foldl_add (qs:List Rat):∀ acc:Rat,qs.foldl (·+·) acc=acc+sumQ qs:=by
 unfold sumQ
 induction qs with
 | nil=>intro acc; simp [Rat.add_zero]
 | cons q qs ih=>intro acc; rw [List.foldl_cons,List.foldl_cons,ih,ih (0+q),Rat.zero_add,Rat.add_assoc]
theorem dA (q:Rat) (qs:List Rat):sumQ (q::qs)=q+sumQ qs:=by
 show (q::qs).foldl (·+·) 0=_
 rw [List.foldl_cons,foldl_add,Rat.zero_add]
theorem sumQ_app (as bs:List Rat):sumQ (as++bs)=sumQ as+sumQ bs:=by
 induction as with
 | nil=>rw [List.nil_append]; show _=(0:Rat)+_; rw [Rat.zero_add]
 | cons a as ih=>rw [List.cons_append,dA,dA,ih,Rat.add_assoc]
theorem opIx_lst {xs:List D} {i:Int} {k:L→Prop}:opIx (.lst xs) (.int i) k=∃ v,atI xs i=some v∧k (.d v):=rfl
theorem opIx_tup {xs:List D} {i:Int} {k:L→Prop}:opIx (.tup xs) (.int i) k=∃ v,atI xs i=some v∧k (.d v):=rfl
theorem opIx_str {z:Str} {i:Int} {k:L→Prop}:opIx (.str z) (.int i) k=(z.length≤sizeLine∧∃ c,atI z.cps.toList i=some c∧k (.d (.str ⟨#[c]⟩))):=rfl
theorem ix_ring0 {R:Ring} {k:L→Prop}:opIx (aR R) (.int 0) k=k (.d (.lst (R.rooms.map frD))):=by
 show (∃ v,atI _ _=some v∧_)=_
 simp only [atI_0,Option.some.injEq,exists_eq_left']
theorem ix_ring1 {R:Ring} {k:L→Prop}:opIx (aR R) (.int 1) k=k (.d (.lst (R.asks.map askD))):=by
 show (∃ v,atI _ _=some v∧_)=_
 simp only [atI_1,Option.some.injEq,exists_eq_left']
theorem ix_ask0 {a:Ask} {k:L→Prop}:opIx (askD a) (.int 0) k=k (.d (.str a.nm)):=by
 show (∃ v,atI _ _=some v∧_)=_
 simp only [atI_0,Option.some.injEq,exists_eq_left']
theorem ix_ask1 {a:Ask} {k:L→Prop}:opIx (askD a) (.int 1) k=k (.d (.int a.one)):=by
 show (∃ v,atI _ _=some v∧_)=_
 simp only [atI_1,Option.some.injEq,exists_eq_left']
theorem ix_ask2 {a:Ask} {k:L→Prop}:opIx (askD a) (.int 2) k=k (.d (.int a.other)):=by
 show (∃ v,atI _ _=some v∧_)=_
 simp only [atI_2,Option.some.injEq,exists_eq_left']
theorem ix_ask3 {a:Ask} {k:L→Prop}:opIx (askD a) (.int 3) k=k (.d (frD a.size)):=by
 show (∃ v,atI _ _=some v∧_)=_
 simp only [atI_3,Option.some.injEq,exists_eq_left']
theorem ix_fr0 {q:Rat} {k:L→Prop}:opIx (frD q) (.int 0) k=k (.d (.int q.num)):=by
 show (∃ v,atI _ _=some v∧_)=_
 simp only [atI_0,Option.some.injEq,exists_eq_left']
theorem ix_fr1 {q:Rat} {k:L→Prop}:opIx (frD q) (.int 1) k=k (.d (.int (q.den:Int))):=by
 show (∃ v,atI _ _=some v∧_)=_
 simp only [atI_1,Option.some.injEq,exists_eq_left']
theorem noL_fr (q:Rat):noL (frD q)=true:=by simp [frD,noL,noLs]
theorem noLs_map {α:Type} {f:α→D}:∀ (xs:List α),(∀ x∈xs,noL (f x)=true)→noLs (xs.map f)=true
 | [],_=>rfl
 | x::xs,h=>by simp [noLs,h x List.mem_cons_self,noLs_map xs fun y hy=>h y (List.mem_cons_of_mem _ hy)]
theorem noLs_frs (qs:List Rat):noLs (qs.map frD)=true:=noLs_map _ fun q _=>noL_fr q
theorem noLs_ints {α:Type} (f:α→Int) (xs:List α):noLs (xs.map fun x=>D.int (f x))=true:=noLs_map _ fun _ _=>rfl
theorem rooms_len (R:Ring):R.rooms.length=R.n:=rfl
def wayS (w:Bool):Str:=if w then "on" else "back"
theorem shape_on:bf (.str "on"):=bj (n:=0) (by decide +kernel) (by decide)
theorem shape_back:bf (.str "back"):=bj (n:=0) (by decide +kernel) (by decide)
theorem shape_way (w:Bool):bf (.str (wayS w)):=by
 cases w
 ·
  exact shape_back
 ·
  exact shape_on
theorem way_on (w:Bool):(wayS w="on")=(w=true):=by cases w <;> simp [wayS] <;> decide
theorem way_back (w:Bool):(wayS w="back")=(w=false):=by cases w <;> simp [wayS] <;> decide
theorem tgTup_tup {is:List Nat} {xs:List D} {ρ:Ev} {k:Ev→Prop}:dj is (.tup xs) ρ k=ej is xs ρ k:=rfl
theorem tgTup_ask {is:List Nat} {a:Ask} {ρ:Ev} {k:Ev→Prop}:dj is (askD a) ρ k=ej is [.str a.nm,.int a.one,.int a.other,frD a.size] ρ k:=rfl
theorem tgTup_fr {is:List Nat} {q:Rat} {ρ:Ev} {k:Ev→Prop}:dj is (frD q) ρ k=ej is [.int q.num,.int (q.den:Int)] ρ k:=rfl
theorem itemsOf_lst {xs:List D} {k:List D→Prop}:fA (.lst xs) k=k xs:=rfl
theorem itemsOf_tup {xs:List D} {k:List D→Prop}:fA (.tup xs) k=k xs:=rfl
theorem itemsOf_fr {q:Rat} {k:List D→Prop}:fA (frD q) k=k [.int q.num,.int (q.den:Int)]:=rfl
theorem opLen_lst {xs:List D} {k:L→Prop}:bA [.lst xs] k=k (.d (.int xs.length)):=rfl
theorem opLen_tup {xs:List D} {k:L→Prop}:bA [.tup xs] k=k (.d (.int xs.length)):=rfl
theorem opLen_str {x:Str} {k:L→Prop}:bA [.str x] k=(x.length≤sizeLine∧k (.d (.int x.length))):=rfl
theorem opLen_fr {q:Rat} {k:L→Prop}:bA [frD q] k=k (.d (.int 2)):=rfl
theorem opLen_ring {R:Ring} {k:L→Prop}:bA [aR R] k=k (.d (.int 2)):=rfl
theorem opLen_ask {a:Ask} {k:L→Prop}:bA [askD a] k=k (.d (.int 4)):=rfl
theorem isTy_tup_fr (q:Rat):isTy "tuple" (frD q)=true:=rfl
theorem isTy_lst_fr (q:Rat):isTy "list" (frD q)=false:=rfl
theorem isTy_int_fr (q:Rat):isTy "int" (frD q)=false:=rfl
theorem isTy_bool_fr (q:Rat):isTy "bool" (frD q)=false:=rfl
theorem isTy_str_fr (q:Rat):isTy "str" (frD q)=false:=rfl
theorem isTy_tup_ring (R:Ring):isTy "tuple" (aR R)=true:=rfl
def frL (n:Nat) (f:Nat→Rat):List D:=(List.range n).map fun (t:Nat)=>frD (f t)
theorem frL_len (n:Nat) (f:Nat→Rat):(frL n f).length=n:=by simp [frL]
theorem frL_at {n:Nat} {f:Nat→Rat} {t:Nat} (h:t < n):atI (frL n f) (t:Int)=some (frD (f t)):=by
 refine ft ?_
 unfold frL
 rw [List.getElem?_map,List.getElem?_range h]
 rfl
theorem frL_map (n:Nat) (f:Nat→Rat):frL n f=((List.range n).map f).map frD:=by
 unfold frL
 rw [List.map_map]
 rfl
theorem noLs_frL (n:Nat) (f:Nat→Rat):noLs (frL n f)=true:=by rw [frL_map]; exact noLs_frs _
def cutP (c:Nat×Nat):D:=.tup [.int (c.1:Int),.int (c.2:Int)]
theorem ix_cut0 {c:Nat×Nat} {k:L→Prop}:opIx (cutP c) (.int 0) k=k (.d (.int c.1)):=by
 show (∃ v,atI _ _=some v∧_)=_
 simp only [atI_0,Option.some.injEq,exists_eq_left']
theorem ix_cut1 {c:Nat×Nat} {k:L→Prop}:opIx (cutP c) (.int 1) k=k (.d (.int c.2)):=by
 show (∃ v,atI _ _=some v∧_)=_
 simp only [atI_1,Option.some.injEq,exists_eq_left']
theorem okD_cut (n:Nat) (c:Nat×Nat):okD (n+1) (cutP c)=true:=by cases n <;> simp [cutP,okD,okDs]
theorem noL_cut (c:Nat×Nat):noL (cutP c)=true:=by simp [cutP,noL,noLs]
theorem shape_cut (c:Nat×Nat):bf (cutP c):=bj (okD_cut 0 c) (by decide)
theorem eqD_cut (c d:Nat×Nat):eqD (cutP c) (cutP d)=decide (c=d):=by
 unfold cutP
 rw [eqD_tup,eqDs_cons,eqDs_cons,eqDs_nil,eqD_int,eqD_int,Bool.and_true,← Bool.decide_and,decide_eq_decide]
 constructor
 ·
  rintro ⟨h1,h2⟩
  exact Prod.ext (by omega) (by omega)
 ·
  rintro rfl; exact ⟨rfl,rfl⟩
def gP (g:Rat×(Nat×Nat)):D:=.tup [frD g.1,cutP g.2]
theorem ix_g0 {g:Rat×(Nat×Nat)} {k:L→Prop}:opIx (gP g) (.int 0) k=k (.d (frD g.1)):=by
 show (∃ v,atI _ _=some v∧_)=_
 simp only [atI_0,Option.some.injEq,exists_eq_left']
theorem ix_g1 {g:Rat×(Nat×Nat)} {k:L→Prop}:opIx (gP g) (.int 1) k=k (.d (cutP g.2)):=by
 show (∃ v,atI _ _=some v∧_)=_
 simp only [atI_1,Option.some.injEq,exists_eq_left']
theorem isTy_non (T:String):isTy T .non=(T == "NoneType"):=rfl
theorem isTy_bl (T:String) (b:Bool):isTy T (.bl b)=(T == "bool" || T == "int"):=rfl
theorem isTy_int (T:String) (i:Int):isTy T (.int i)=(T == "int"):=rfl
theorem isTy_str (T:String) (x:Str):isTy T (.str x)=(T == "str"):=rfl
theorem isTy_tup (T:String) (xs:List D):isTy T (.tup xs)=(T == "tuple"):=rfl
theorem isTy_lst (T:String) (xs:List D):isTy T (.lst xs)=(T == "list"):=rfl
theorem isTy_tup_g (g:Rat×(Nat×Nat)):isTy "tuple" (gP g)=true:=rfl
theorem isTy_tup_cut (c:Nat×Nat):isTy "tuple" (cutP c)=true:=rfl
theorem isTy_tup_ask (a:Ask):isTy "tuple" (askD a)=true:=rfl
theorem opLen_cut {c:Nat×Nat} {k:L→Prop}:bA [cutP c] k=k (.d (.int 2)):=rfl
theorem opLen_g {c:Rat×(Nat×Nat)} {k:L→Prop}:bA [gP c] k=k (.d (.int 2)):=rfl
theorem noLs_cuts (cs:List (Nat×Nat)):noLs (cs.map cutP)=true:=noLs_map _ fun c _=>noL_cut c
theorem StOk.noL {xs:List D} (h:StOk xs):noLs xs=true:=by
 obtain ⟨c,sd,t,rfl,_,_⟩:=h
 rfl
end L2
namespace L2
open PySem PySem.Builtin.Str
theorem str_ext {x y:Str} (h:x.cps.toList=y.cps.toList):x=y:=by
 cases x; cases y
 exact congrArg Str.mk (Array.toList_inj.mp h)
theorem slice_to {x:Str} {j:Int} (h0:0≤j) (h2:j≤x.length):(Txt.slice x none (some j)).cps.toList=x.cps.toList.take j.toNat:=by
 have:=eq_of_beq (PyProof.Rows.slice_closes_toL h0 h2)
 rw [this]
 simp
theorem slice_from {x:Str} {i:Int} (h0:0≤i) (h2:i≤x.length):(Txt.slice x (some i) none).cps.toList=x.cps.toList.drop i.toNat:=by
 rw [PyProof.Rows.slice_from_eq h0 h2 rfl]
 have e:x.cps.toList.length=x.length:=by simp [Str.length]
 rw [List.take_of_length_le]
 rw [List.length_drop,e]
 omega
theorem cat_list (x y:Str):(x++y).cps.toList=x.cps.toList++y.cps.toList:=by
 show (x.cps++y.cps).toList=_
 simp
theorem len_list (x:Str):x.length=x.cps.toList.length:=by simp [Str.length]
def LetterC (c:Nat):Prop:=97≤c∧c≤122
structure NmOk (z:Str):Prop where
 lo:1≤z.cps.toList.length
 hi:z.cps.toList.length≤8
 let_:∀ c∈z.cps.toList,LetterC c
theorem NmOk.ok {z:Str} (h:NmOk z):PyData.strOk z=true:=by
 unfold PyData.strOk
 rw [← Array.all_toList,List.all_eq_true]
 intro c hc
 have:=h.let_ c hc
 unfold LetterC at this
 simp
 omega
def lettersS:Str:="abcdefghijklmnopqrstuvwxyz"
theorem letters_list:lettersS.cps.toList=(List.range 26).map (·+97):=by decide
theorem letters_at {i:Int} (h0:0≤i) (h1:i < 26):atI lettersS.cps.toList i=some (i.toNat+97):=by
 refine atI_of h0 ?_
 rw [letters_list,List.getElem?_map,List.getElem?_range (by omega)]
 rfl
theorem join_list_:∀ (zs:List Str),(Str.join "" zs).cps.toList=(zs.map fun z=>z.cps.toList).flatten
 | []=>rfl
 | [x]=>by simp [Str.join]
 | x::y::r=>by
  have ih:=join_list_ (y::r)
  show (x++("" : Str)++Str.join "" (y::r)).cps.toList=_
  rw [cat_list,cat_list,ih]
  show x.cps.toList++[]++_=_
  simp
theorem txt_join (zs:List Str):(Txt.join "" zs).cps.toList=(zs.map fun z=>z.cps.toList).flatten:=by
 rw [eq_of_beq (PyProof.Rows.join_closes (sep:="") (sep':="") (ys:=zs) rfl),join_list_]
theorem flat_ones:∀ cs:List Nat,(cs.map fun c=>[c]).flatten=cs
 | []=>rfl
 | c::cs=>by rw [List.map_cons,List.flatten_cons,flat_ones cs]; rfl
theorem join_ones_ (cs:List Nat):(Txt.join "" (cs.map fun c=>(⟨#[c]⟩:Str))).cps.toList=cs:=by
 rw [txt_join,List.map_map]
 exact flat_ones cs
theorem sum_ones:∀ cs:List Nat,((cs.map fun c=>(⟨#[c]⟩:Str)).map (·.length)).sum=cs.length
 | []=>rfl
 | c::cs=>by
  rw [List.map_cons,List.map_cons,List.sum_cons,sum_ones cs,List.length_cons]
  show 1+_=_
  omega
def nameAt (b:Str) (p t k:Nat):Str:=⟨(b.cps.toList.take p++[(t+k) % 26+97]++b.cps.toList.drop (p+1)).toArray⟩
theorem nameAt_ok {b:Str} {p t k:Nat} (h:NmOk b) (hp:p < b.cps.toList.length):NmOk (nameAt b p t k):=by
 have e:(nameAt b p t k).cps.toList=b.cps.toList.take p++[(t+k) % 26+97]++b.cps.toList.drop (p+1):=by simp [nameAt]
 have l:(b.cps.toList.take p++[(t+k) % 26+97]++b.cps.toList.drop (p+1)).length=b.cps.toList.length:=by
  rw [List.length_append,List.length_append,List.length_take,List.length_drop,List.length_singleton]
  omega
 refine ⟨by rw [e,l]; exact h.lo,by rw [e,l]; exact h.hi,fun c hc=>?_⟩
 rw [e] at hc
 rcases List.mem_append.mp hc with hc | hc
 ·
  rcases List.mem_append.mp hc with hc | hc
  ·
   exact h.let_ c (List.mem_of_mem_take hc)
  ·
   rw [List.mem_singleton.mp hc]
   unfold LetterC
   have:=Nat.mod_lt (t+k) (y:=26) (by decide)
   omega
 ·
  exact h.let_ c (List.mem_of_mem_drop hc)
theorem nameAt_inj {b:Str} {p t j k:Nat} (hp:p < b.cps.toList.length) (hj:j < 26) (hk:k < 26) (h:nameAt b p t j=nameAt b p t k):j=k:=by
 have e:b.cps.toList.take p++[(t+j) % 26+97]++b.cps.toList.drop (p+1)=b.cps.toList.take p++[(t+k) % 26+97]++b.cps.toList.drop (p+1):=by
  have:=congrArg (fun z:Str=>z.cps.toList) h
  simpa [nameAt] using this
 rw [List.append_assoc,List.append_assoc] at e
 have e2:=List.append_cancel_left e
 have e3:=(List.cons.inj e2).1
 omega
theorem nodup_map {α β:Type} {f:α→β}:∀ {xs:List α},xs.Nodup→(∀ x∈xs,∀ y∈xs,f x=f y→x=y)→(xs.map f).Nodup
 | [],_,_=>List.nodup_nil
 | x::xs,hn,h=>by
  rw [List.map_cons,List.nodup_cons]
  obtain ⟨h1,h2⟩:=List.nodup_cons.mp hn
  refine ⟨fun hm=>?_,nodup_map h2 fun a ha b hb=>h a (List.mem_cons_of_mem _ ha) b (List.mem_cons_of_mem _ hb)⟩
  obtain ⟨y,hy,e⟩:=List.mem_map.mp hm
  have:=h y (List.mem_cons_of_mem _ hy) x List.mem_cons_self e
  rw [this] at hy
  exact h1 hy
theorem lt_of_RB {q:Rat} (h:RB 60 q):q < ((2 ^ 300:Nat):Rat):=by
 have h1:=num_eq q
 have hd:(1:Rat)≤(q.den:Rat):=by
  have:=q.den_pos
  exact_mod_cast this
 have h2:(q.num:Rat) < ((2 ^ 300:Nat):Rat):=by
  have h3:q.num < ((2 ^ 300:Nat):Int):=by
   have:=Nat.lt_of_lt_of_le h.1 (Nat.pow_le_pow_right (show 0 < 2 by decide) (show 60≤300 by decide))
   omega
  exact Rat.intCast_lt_intCast.mpr h3
 have hV:(0:Rat) < ((2 ^ 300:Nat):Rat):=Rat.natCast_pos.mpr (Nat.pow_pos (by decide))
 generalize ((2 ^ 300:Nat):Rat)=V at *
 refine Rat.not_le.mp fun hq=>?_
 have h4:V*1≤q*(q.den:Rat):=Rat.le_trans (Rat.mul_le_mul_of_nonneg_left hd (Rat.le_of_lt hV)) (Rat.mul_le_mul_of_nonneg_right hq (by grind))
 rw [← h1] at h4
 grind
def denL:List Ask→Nat
 | []=>1
 | a::as=>a.size.den*denL as
theorem denL_pos:∀ as,0 < denL as
 | []=>Nat.one_pos
 | a::as=>Nat.mul_pos a.size.den_pos (denL_pos as)
theorem denL_le:∀ {as:List Ask},(∀ a∈as,RB 60 a.size)→denL as≤2 ^ (60*as.length)
 | [],_=>Nat.le_refl 1
 | a::as,h=>by
  have h1:=(h a List.mem_cons_self).2
  have h2:=denL_le (as:=as) fun p hp=>h p (List.mem_cons_of_mem _ hp)
  show a.size.den*denL as≤2 ^ (60*(as.length+1))
  rw [Nat.mul_add,Nat.mul_one,Nat.pow_add,Nat.mul_comm (2 ^ _)]
  exact Nat.mul_le_mul (Nat.le_of_lt h1) h2
theorem denL_dvd:∀ {as:List Ask} {a:Ask},a∈as→a.size.den∣denL as
 | b::as,a,h=>by
  rcases List.mem_cons.mp h with rfl | h
  ·
   exact Nat.dvd_mul_right _ _
  ·
   exact Nat.dvd_trans (denL_dvd h) (Nat.dvd_mul_left _ _)
theorem cd_of {as:List Ask} (h:∀ a∈as,RB 60 a.size) (hl:as.length≤20):∃ D:Nat,0 < D∧D < 2 ^ 1240∧∀ a∈as,a.size.den∣D:=by
 refine ⟨denL as,denL_pos as,Nat.lt_of_le_of_lt (denL_le h) (Nat.pow_lt_pow_right (by decide) (by omega)),fun a ha=>denL_dvd ha⟩
end L2
namespace L2
open PySem
def onL (n i j:Nat):List Nat:=(List.range ((j+n - i) % n)).map fun s=>(i+s) % n
def backL (n i j:Nat):List Nat:=(List.range ((i+n - j) % n)).map fun s=>(i+n - 1 - s) % n
def wayL (n:Nat) (a:Ask) (w:Bool):List Nat:=if w then onL n a.one a.other else backL n a.one a.other
theorem sub_mod {n i j:Nat} (hi:i < n) (hj:j < n):(((j:Int) - i).fmod n)=(((j+n - i) % n:Nat):Int):=by
 rw [Int.fmod_eq_emod_of_nonneg _ (by omega)]
 have e:((j:Int) - i) % n=((j:Int) - i+n) % n:=(Int.add_emod_right _ _).symm
 rw [e]
 have:(j:Int) - i+n=((j+n - i:Nat):Int):=by omega
 rw [this]
 exact (Int.natCast_emod _ _).symm
def far (n i j:Nat):Nat:=(j+n - i) % n
theorem mod_cases {x n:Nat} (h:x < 2*n):x % n=if x < n then x else x - n:=by
 by_cases hx:x < n
 ·
  rw [if_pos hx,Nat.mod_eq_of_lt hx]
 ·
  rw [if_neg hx,Nat.mod_eq_sub_mod (by omega),Nat.mod_eq_of_lt (by omega)]
theorem far_eq {n i j:Nat} (hi:i < n) (hj:j < n):far n i j=if i≤j then j - i else j+n - i:=by
 unfold far
 rw [mod_cases (by omega)]
 split <;> split <;> omega
theorem far_lt {n i j:Nat} (hn:0 < n):far n i j < n:=Nat.mod_lt _ hn
theorem far_step {n i s:Nat} (hi:i < n) (hs:s < n):far n i ((i+s) % n)=s:=by
 have h1:=Nat.mod_lt (i+s) (y:=n) (by omega)
 rw [far_eq hi h1,mod_cases (by omega)]
 split <;> split <;> omega
theorem step_far {n i t:Nat} (hi:i < n) (ht:t < n):(i+far n i t) % n=t:=by
 have h1:=far_lt (n:=n) (i:=i) (j:=t) (by omega)
 rw [mod_cases (by omega),far_eq hi ht]
 split <;> split <;> omega
theorem far_sum {n i j:Nat} (hi:i < n) (hj:j < n) (h:i≠j):far n i j+far n j i=n:=by
 rw [far_eq hi hj,far_eq hj hi]
 split <;> split <;> omega
theorem mem_on {n i j t:Nat} (hi:i < n):t∈onL n i j↔t < n∧far n i t < far n i j:=by
 constructor
 ·
  intro h
  obtain ⟨s,hs,rfl⟩:=List.mem_map.mp h
  have hs:s < far n i j:=List.mem_range.mp hs
  have:=far_lt (n:=n) (i:=i) (j:=j) (by omega)
  exact ⟨Nat.mod_lt _ (by omega),by rw [far_step hi (by omega)]; exact hs⟩
 ·
  rintro ⟨ht,h⟩
  exact List.mem_map.mpr ⟨far n i t,List.mem_range.mpr h,step_far hi ht⟩
theorem back_as {n i s:Nat} (hi:i < n) (hs:s < n):(i+n - 1 - s) % n=(i+(n - 1 - s)) % n:=by
 congr 1
 omega
theorem mem_back {n i j t:Nat} (hi:i < n) (hj:j < n) (hij:i≠j):t∈backL n i j↔t < n∧¬ far n i t < far n i j:=by
 have hsum:=far_sum hi hj hij
 constructor
 ·
  intro h
  obtain ⟨s,hs,rfl⟩:=List.mem_map.mp h
  have hs:s < far n j i:=List.mem_range.mp hs
  refine ⟨Nat.mod_lt _ (by omega),?_⟩
  rw [back_as hi (by omega),far_step hi (by omega)]
  omega
 ·
  rintro ⟨ht,h⟩
  have:=far_lt (n:=n) (i:=i) (j:=t) (by omega)
  refine List.mem_map.mpr ⟨n - 1 - far n i t,List.mem_range.mpr (show _ < far n j i by omega),?_⟩
  rw [back_as hi (by omega)]
  have e:n - 1 - (n - 1 - far n i t)=far n i t:=by omega
  rw [e,step_far hi ht]
def isOn (n:Nat) (a:Ask) (t:Nat):Bool:=decide (far n a.one t < far n a.one a.other)
theorem mem_way {n:Nat} {a:Ask} (h:AskOk n a) (w:Bool) {t:Nat} (ht:t < n):t∈wayL n a w↔(isOn n a t == w)=true:=by
 have h1:=h.one
 have h2:=h.other
 cases w
 ·
  show t∈backL n a.one a.other↔_
  rw [mem_back h1 h2 h.ne]
  simp [isOn,ht]
 ·
  show t∈onL n a.one a.other↔_
  rw [mem_on h1]
  simp [isOn,ht]
end L2
namespace L2
open PySem
theorem RB.le {m n:Nat} {q:Rat} (h:RB m q) (hl:m≤n):RB n q:=h.mono hl
theorem RB.sum {b:Nat}:∀ (qs:List Rat),(∀ q∈qs,RB b q)→RB (1+(b+1)*qs.length) (sumQ qs)
 | [],_=>RB.mono (m:=1) ⟨by decide,by decide⟩ (by omega)
 | q::qs,h=>by
  have ih:=RB.sum qs fun z hz=>h z (List.mem_cons_of_mem _ hz)
  rw [dA]
  refine ((h q List.mem_cons_self).add ih).mono ?_
  rw [List.length_cons,Nat.mul_succ]
  omega
theorem denP_le {b:Nat}:∀ (qs:List Rat),(∀ q∈qs,RB b q)→denP qs≤2 ^ (b*qs.length)
 | [],_=>Nat.le_refl 1
 | q::qs,h=>by
  have ih:=denP_le qs fun z hz=>h z (List.mem_cons_of_mem _ hz)
  show q.den*denP qs≤_
  refine Nat.le_trans (Nat.mul_le_mul (Nat.le_of_lt (h q List.mem_cons_self).2) ih) ?_
  rw [← Nat.pow_add,List.length_cons,Nat.mul_succ]
  exact Nat.pow_le_pow_right (by decide) (by omega)
theorem sumQ_nil:sumQ []=0:=rfl
theorem sumQ_append1 (qs:List Rat) (q:Rat):sumQ (qs++[q])=sumQ qs+q:=by
 rw [sumQ_app,dA,sumQ_nil,Rat.add_zero]
def sent (n:Nat) (a:Ask) (p:Rat) (t:Nat):Rat:=if isOn n a t then p else a.size - p
def e8 (n:Nat) (as:List Ask) (ps:List Rat) (t:Nat):Rat:=sumQ ((as.zip ps).map fun x=>sent n x.1 x.2 t)
structure PartsOk (R:Ring) (ps:List Rat) (c:Nat):Prop where
 len:ps.length=R.asks.length
 lo:∀ x∈R.asks.zip ps,0≤x.2∧x.2≤x.1.size
 rb:∀ p∈ps,RB c p
theorem sent_RB {n c:Nat} {a:Ask} {p:Rat} (h:RB 60 a.size) (hp:RB c p) (t:Nat):RB (61+c) (sent n a p t):=by
 unfold sent
 split
 ·
  exact hp.mono (by omega)
 ·
  exact (h.sub hp).mono (by omega)
theorem zip_take {α β:Type} (as:List α) (bs:List β) (k:Nat):(as.zip bs).take k=(as.take k).zip (bs.take k):=by
 unfold List.zip
 exact List.take_zipWith
theorem zip_succ {α β:Type} {as:List α} {bs:List β} {k:Nat} (h1:k < as.length) (h2:k < bs.length):(as.take (k+1)).zip (bs.take (k+1))=(as.take k).zip (bs.take k)++[(as[k],bs[k])]:=by
 rw [← zip_take,← zip_take,List.take_succ,List.getElem?_eq_getElem (by rw [List.length_zip]; omega),List.getElem_zip]
 rfl
theorem loadQ_succ {n:Nat} {as:List Ask} {ps:List Rat} {k:Nat} (h1:k < as.length) (h2:k < ps.length) (t:Nat):e8 n (as.take (k+1)) (ps.take (k+1)) t=e8 n (as.take k) (ps.take k) t+sent n as[k] ps[k] t:=by
 unfold e8
 rw [zip_succ h1 h2,List.map_append]
 exact sumQ_append1 _ _
theorem loadQ_RB {n c:Nat} {as:List Ask} {ps:List Rat} (ha:∀ a∈as,RB 60 a.size) (hp:∀ p∈ps,RB c p) (hl:as.length≤20) (t:Nat):RB (1+(62+c)*20) (e8 n as ps t):=by
 unfold e8
 have h:=RB.sum (b:=61+c) ((as.zip ps).map fun x=>sent n x.1 x.2 t) fun q hq=>by
  obtain ⟨x,hx,rfl⟩:=List.mem_map.mp hq
  obtain ⟨h1,h2⟩:=List.of_mem_zip (a:=x.1) (b:=x.2) hx
  exact sent_RB (ha _ h1) (hp _ h2) t
 refine h.mono ?_
 rw [List.length_map,List.length_zip]
 have:min as.length ps.length≤20:=by omega
 have e:61+c+1=62+c:=by omega
 rw [e]
 exact Nat.add_le_add_left (Nat.mul_le_mul_left _ this) 1
theorem take_mem {α:Type} {xs:List α} {k:Nat} {P:α→Prop} (h:∀ x∈xs,P x):∀ x∈xs.take k,P x:=fun x hx=>h x (List.mem_of_mem_take hx)
theorem range_get {α β:Type} {xs:List α} {f:α→β} (n:Nat) (h:xs.length=n) (g:Nat→β) (hg:∀ k (hk:k < xs.length),g k=f xs[k]):(List.range n).map g=xs.map f:=by
 subst h
 refine List.ext_getElem (by simp) fun j h1 h2=>?_
 simp only [List.getElem_map,List.getElem_range]
 exact hg j (by simpa using h2)
end L2
namespace L2
open PySem
end L2
namespace L2
open PySem
def within (c:Nat×Nat) (p:Nat):Bool:=decide (c.1 < p∧p≤c.2)
def apart (c:Nat×Nat) (i j:Nat):Bool:=within c i != within c j
def acrossQ (as:List Ask) (c:Nat×Nat):Rat:=sumQ ((as.filter fun a=>apart c a.one a.other).map (·.size))
def Ring.room (R:Ring) (t:Nat):Rat:=R.rooms.getD t 0
def roomsQ (R:Ring) (c:Nat×Nat):Rat:=R.room c.1+R.room c.2
def shownQ (R:Ring) (c:Nat×Nat):Rat:=acrossQ R.asks c / roomsQ R c
def IsCut (n:Nat) (c:Nat×Nat):Prop:=c.1≤c.2∧c.2 < n
def cutsL (n:Nat):List (Nat×Nat):=(List.range n).flatMap fun g=>(List.range (n - g)).map fun i=>(g,g+i)
theorem mem_cuts {n:Nat} {c:Nat×Nat}:c∈cutsL n↔IsCut n c:=by
 unfold cutsL IsCut
 rw [List.mem_flatMap]
 constructor
 ·
  rintro ⟨g,hg,h⟩
  obtain ⟨i,hi,rfl⟩:=List.mem_map.mp h
  have:=List.mem_range.mp hg
  have:=List.mem_range.mp hi
  exact ⟨Nat.le_add_right _ _,by show g+i < n; omega⟩
 ·
  rintro ⟨h1,h2⟩
  exact ⟨c.1,List.mem_range.mpr (by omega),List.mem_map.mpr ⟨c.2 - c.1,List.mem_range.mpr (by omega),by ext <;> simp; omega⟩⟩
theorem cuts_len {n:Nat} (h:n≤12):(cutsL n).length≤200:=by
 have:∀ m:Fin 13,(cutsL m.1).length≤200:=by decide
 exact this ⟨n,by omega⟩
theorem room_ok {R:Ring} (hR:R.Ok) {t:Nat} (h:t < R.n):0 < R.room t∧RB 60 (R.room t):=by
 have h':t < R.rooms.length:=h
 unfold Ring.room
 rw [List.getD_eq_getElem?_getD,List.getElem?_eq_getElem h']
 exact hR.room _ (List.getElem_mem h')
theorem rooms_pos {R:Ring} (hR:R.Ok) {c:Nat×Nat} (h:IsCut R.n c):0 < roomsQ R c∧RB 121 (roomsQ R c):=by
 have a:=room_ok hR (t:=c.1) (by have:=h.1; have:=h.2; omega)
 have b:=room_ok hR (t:=c.2) h.2
 unfold roomsQ
 exact ⟨by have:=a.1; have:=b.1; grind,a.2.add b.2⟩
theorem den_of_int {q:Rat} {D:Nat} {z:Int} (h0:0 < D) (e:q*(D:Rat)=(z:Rat)):q.den∣D:=by
 have hQ:(D:Rat)≠0:=fun w=>by
  have:=Rat.natCast_pos.mpr h0
  rw [w] at this
  exact absurd this (by decide)
 have e2:q=Rat.divInt z (D:Int):=by
  rw [Rat.divInt_eq_div]
  have:((D:Int):Rat)=(D:Rat):=rfl
  rw [this,← e,Rat.mul_div_cancel hQ]
 rw [e2]
 have:=Rat.den_divInt z (D:Int)
 rw [this,if_neg (by omega),Int.natAbs_natCast]
 exact Nat.div_dvd_of_dvd (Nat.gcd_dvd_left _ _)
theorem int_of_den {q:Rat} {D:Nat} (h:q.den∣D):∃ z:Int,q*(D:Rat)=(z:Rat):=by
 obtain ⟨m,rfl⟩:=h
 refine ⟨q.num*(m:Int),?_⟩
 rw [Rat.intCast_mul,num_eq]
 have e1:((m:Int):Rat)=(m:Rat):=rfl
 have e2:((q.den*m:Nat):Rat)=(q.den:Rat)*(m:Rat):=Rat.natCast_mul _ _
 rw [e1,e2,Rat.mul_assoc]
theorem den_add {p q:Rat} {D:Nat} (h0:0 < D) (hp:p.den∣D) (hq:q.den∣D):(p+q).den∣D:=by
 obtain ⟨a,ha⟩:=int_of_den hp
 obtain ⟨b,hb⟩:=int_of_den hq
 exact den_of_int (z:=a+b) h0 (by rw [Rat.add_mul,ha,hb,Rat.intCast_add])
def SumOk (qs:List Rat):Prop:=denP qs < 2 ^ 9000∨∃ D:Nat,0 < D∧D < 2 ^ 4400∧∀ q∈qs,q.den∣D
end L2
namespace L2
open PySem
def aF (R:Ring) (ps:List Rat) (t:Nat):Rat:=e8 R.n R.asks ps t / R.room t
def topI (n:Nat) (f:Nat→Rat):Nat:=(List.range n).foldl (fun b t=>if f b < f t then t else b) 0
theorem topI_inv (f:Nat→Rat):∀ (ts:List Nat) (b:Nat),(∀ t∈ts,f t≤f (ts.foldl (fun b t=>if f b < f t then t else b) b))∧f b≤f (ts.foldl (fun b t=>if f b < f t then t else b) b)∧(ts.foldl (fun b t=>if f b < f t then t else b) b=b∨ts.foldl (fun b t=>if f b < f t then t else b) b∈ts)
 | [],b=>⟨fun t ht=>by simp at ht,Rat.le_refl,.inl rfl⟩
 | s::ts,b=>by
  obtain ⟨h1,h2,h3⟩:=topI_inv f ts (if f b < f s then s else b)
  rw [List.foldl_cons]
  have g:f b≤f (if f b < f s then s else b)∧f s≤f (if f b < f s then s else b):=by
   split
   ·
    rename_i h; exact ⟨Rat.le_of_lt h,Rat.le_refl⟩
   ·
    rename_i h; exact ⟨Rat.le_refl,Rat.not_lt.mp h⟩
  refine ⟨fun t ht=>?_,Rat.le_trans g.1 h2,?_⟩
  ·
   rcases List.mem_cons.mp ht with rfl | ht
   ·
    exact Rat.le_trans g.2 h2
   ·
    exact h1 t ht
  ·
   rcases h3 with h3 | h3
   ·
    rw [h3]
    split
    ·
     exact .inr List.mem_cons_self
    ·
     exact .inl rfl
   ·
    exact .inr (List.mem_cons_of_mem _ h3)
theorem topI_ok {n:Nat} (hn:0 < n) (f:Nat→Rat):topI n f < n∧∀ t,t < n→f t≤f (topI n f):=by
 obtain ⟨h1,_,h3⟩:=topI_inv f (List.range n) 0
 refine ⟨?_,fun t ht=>h1 t (List.mem_range.mpr ht)⟩
 rcases h3 with h3 | h3
 ·
  unfold topI; rw [h3]; exact hn
 ·
  exact List.mem_range.mp h3
theorem enum_fr (n:Nat) (f:Nat→Rat):enumD (frL n f)=(List.range n).map fun (t:Nat)=>D.tup [.int (t:Int),frD (f t)]:=by
 unfold enumD frL
 refine List.ext_getElem (by simp) fun j h1 h2=>?_
 simp
theorem room_lst (R:Ring):R.rooms.map frD=frL R.n R.room:=by
 rw [frL_map]
 congr 1
 refine List.ext_getElem (by simp [Ring.n]) fun j h1 h2=>?_
 simp [Ring.room,h1]
theorem zip_frL (n:Nat) (f g:Nat→Rat):zipD (frL n f) (frL n g)=(List.range n).map fun (t:Nat)=>D.tup [frD (f t),frD (g t)]:=by
 unfold zipD frL
 refine List.ext_getElem (by simp) fun j h1 h2=>?_
 simp
theorem isOn_eq {n : Nat} {a : Ask} (h : AskOk n a) {t : Nat} (ht : t < n) : isOn n a t = ((decide (a.one ≤ t) != decide (a.other ≤ t)) != decide (a.other < a.one)) := by
  have h1 := h.one
  have h2 := h.other
  have hne := h.ne
  unfold isOn
  rw [far_eq h1 ht, far_eq h1 h2]
  by_cases a1 : a.one ≤ t <;> by_cases a2 : a.other ≤ t <;> by_cases a3 : a.other < a.one <;> by_cases a4 : a.one ≤ a.other
  all_goals
    simp only [a1, a2, a3, a4, if_true, if_false, decide_true, decide_false]
  all_goals first
    | omega
    | (first
        | (rw [decide_eq_true (by omega)]; rfl)
        | (rw [decide_eq_false (by omega)]; rfl))
theorem apart_iff {n:Nat} {a:Ask} (h:AskOk n a) {c:Nat×Nat} (hc:IsCut n c):apart c a.one a.other=(isOn n a c.1 != isOn n a c.2):=by
 have h1:=hc.1
 have h2:=hc.2
 rw [isOn_eq h (by omega),isOn_eq h h2]
 unfold apart within
 have e:∀ p:Nat,decide (c.1 < p∧p≤c.2)=(decide (p≤c.1) != decide (p≤c.2)):=fun p=>by
  by_cases q1:p≤c.1 <;> by_cases q2:p≤c.2
  ·
   rw [decide_eq_false (by omega)]; simp [q1,q2]
  ·
   omega
  ·
   rw [decide_eq_true (by omega)]; simp [q1,q2]
  ·
   rw [decide_eq_false (by omega)]; simp [q1,q2]
 rw [e,e]
 cases decide (a.one≤c.1) <;> cases decide (a.one≤c.2) <;> cases decide (a.other≤c.1) <;> cases decide (a.other≤c.2) <;> cases decide (a.other < a.one) <;> rfl
theorem div_le_iff' {a b c:Rat} (hb:0 < b):a / b≤c↔a≤c*b:=by
 rw [← Rat.not_lt,← Rat.not_lt,Rat.lt_div_iff hb]
end L2
namespace L2
open PySem
def firstB (P:Nat→Bool) (n:Nat):Option Nat:=(List.range n).find? P
theorem first_none {P:Nat→Bool} {n:Nat}:firstB P n=none↔∀ k,k < n→P k=false:=by
 unfold firstB
 rw [List.find?_eq_none]
 constructor
 ·
  intro h k hk
  have:=h k (List.mem_range.mpr hk)
  simpa using this
 ·
  intro h k hk
  rw [h k (List.mem_range.mp hk)]
  exact Bool.false_ne_true
theorem first_at {P:Nat→Bool} {n k:Nat} (hk:k < n) (h1:P k=true) (h0:∀ j,j < k→P j=false):firstB P n=some k:=by
 have e:List.range n=List.range k++k::(List.range' (k+1) (n - k - 1)):=by
  rw [List.range_eq_range',List.range_eq_range']
  have:n=k+(1+(n - k - 1)):=by omega
  conv=>lhs; rw [this]
  rw [← List.range'_append_1,Nat.zero_add]
  congr 1
  rw [Nat.add_comm,List.range'_succ]
 unfold firstB
 rw [e,List.find?_append]
 have:(List.range k).find? P=none:=by
  rw [List.find?_eq_none]
  intro j hj
  rw [h0 j (List.mem_range.mp hj)]
  exact Bool.false_ne_true
 rw [this,List.find?_cons,h1]
 rfl
def Ring.sz (R:Ring) (k:Nat):Rat:=(R.asks.map (·.size)).getD k 0
def pairI (x:Str) (k:Nat):D:=.tup [.str x,.int (k:Int)]
end L2
namespace My
open PySem L2
end My
namespace My
open PySem L2
def br (R:Ring) (j:Nat):Ask:=(R.asks[j]?).getD ⟨"",0,0,0⟩
def onA (R:Ring) (j t:Nat):Bool:=isOn R.n (br R j) t
def dI (R:Ring) (w:Nat→Int) (k g h:Nat):Int:=((List.range (R.asks.length - k)).map fun i=>if onA R (k+i) g != onA R (k+i) h then w (k+i) else 0).sum
theorem fG {R:Ring} (hR:R.Ok) {j:Nat} (h:j < R.asks.length):AskOk R.n (br R j):=by
 unfold br
 rw [List.getElem?_eq_getElem h]
 exact hR.ask _ (List.getElem_mem h)
theorem db {R:Ring} {j:Nat} (h:j < R.asks.length):br R j=R.asks[j]:=by
 unfold br
 rw [List.getElem?_eq_getElem h]
 rfl
theorem dI_comm (R:Ring) (w:Nat→Int) (k g h:Nat):dI R w k g h=dI R w k h g:=by
 unfold dI
 congr 1
 refine List.map_congr_left fun i _=>?_
 cases onA R (k+i) g <;> cases onA R (k+i) h <;> rfl
theorem dI_step (R:Ring) (w:Nat→Int) {k:Nat} (hk:k < R.asks.length) (g h:Nat):dI R w k g h=(if onA R k g != onA R k h then w k else 0)+dI R w (k+1) g h:=by
 unfold dI
 have e:R.asks.length - k=(R.asks.length - (k+1))+1:=by omega
 rw [e,List.range_succ_eq_map,List.map_cons,List.sum_cons,List.map_map]
 congr 2
 refine List.map_congr_left fun i _=>?_
 show (if onA R (k+(i+1)) g != onA R (k+(i+1)) h then w (k+(i+1)) else 0)=_
 rw [show k+(i+1)=k+1+i by omega]
theorem sumI_le2 {α:Type} (f1 f2 g1 g2:α→Int):∀ (xs:List α),(∀ x∈xs,f1 x+f2 x≤g1 x+g2 x)→(xs.map f1).sum+(xs.map f2).sum≤(xs.map g1).sum+(xs.map g2).sum
 | [],_=>by simp
 | x::xs,h=>by
  have h1:=h x List.mem_cons_self
  have h2:=sumI_le2 f1 f2 g1 g2 xs fun y hy=>h y (List.mem_cons_of_mem _ hy)
  simp only [List.map_cons,List.sum_cons]
  omega
theorem four_bits:∀ (u1 u2 u3 u4 v1 v2 v3 v4 c:Bool),(u1→u2)→(u2→u3)→(u3→u4)→(v1→v2)→(v2→v3)→(v3→v4) →
  ((((u1 != v1) != c) != ((u2 != v2) != c)).toNat+(((u3 != v3) != c) != ((u4 != v4) != c)).toNat≤(((u1 != v1) != c) != ((u3 != v3) != c)).toNat+(((u2 != v2) != c) != ((u4 != v4) != c)).toNat) ∧
  ((((u1 != v1) != c) != ((u4 != v4) != c)).toNat+(((u2 != v2) != c) != ((u3 != v3) != c)).toNat≤(((u1 != v1) != c) != ((u3 != v3) != c)).toNat+(((u2 != v2) != c) != ((u4 != v4) != c)).toNat) ∧
  (((u1 != v1) != c)=((u3 != v3) != c)→((u2 != v2) != c)=((u4 != v4) != c)→((u1 != v1) != c)=((u2 != v2) != c)):=by decide
theorem if_bits {w:Int} (hw:0≤w) {b1 b2 b3 b4:Bool} (h:b1.toNat+b2.toNat≤b3.toNat+b4.toNat):(if b1 then w else 0)+(if b2 then w else 0)≤(if b3 then w else 0)+(if b4 then w else 0):=by
 cases b1 <;> cases b2 <;> cases b3 <;> cases b4 <;> simp at h⊢<;> omega
theorem four_on {R:Ring} (hR:R.Ok) {j:Nat} (hj:j < R.asks.length) {p1 p2 p3 p4:Nat} (h12:p1≤p2) (h23:p2≤p3) (h34:p3≤p4) (h4:p4 < R.n) :
  ((onA R j p1 != onA R j p2).toNat+(onA R j p3 != onA R j p4).toNat≤(onA R j p1 != onA R j p3).toNat+(onA R j p2 != onA R j p4).toNat) ∧
  ((onA R j p1 != onA R j p4).toNat+(onA R j p2 != onA R j p3).toNat≤(onA R j p1 != onA R j p3).toNat+(onA R j p2 != onA R j p4).toNat) ∧
  (onA R j p1=onA R j p3→onA R j p2=onA R j p4→onA R j p1=onA R j p2):=by
 have ha:=fG hR hj
 unfold onA
 rw [isOn_eq ha (show p1 < R.n by omega),isOn_eq ha (show p2 < R.n by omega),isOn_eq ha (show p3 < R.n by omega),isOn_eq ha h4]
 exact four_bits _ _ _ _ _ _ _ _ _ (by simp only [decide_eq_true_eq]; omega) (by simp only [decide_eq_true_eq]; omega) (by simp only [decide_eq_true_eq]; omega) (by simp only [decide_eq_true_eq]; omega) (by simp only [decide_eq_true_eq]; omega) (by simp only [decide_eq_true_eq]; omega)
theorem dI_cross {R:Ring} (hR:R.Ok) {w:Nat→Int} (hw:∀ j,j < R.asks.length→0≤w j) (k:Nat) {p1 p2 p3 p4:Nat} (h12:p1≤p2) (h23:p2≤p3) (h34:p3≤p4) (h4:p4 < R.n) :
  dI R w k p1 p2+dI R w k p3 p4≤dI R w k p1 p3+dI R w k p2 p4∧dI R w k p1 p4+dI R w k p2 p3≤dI R w k p1 p3+dI R w k p2 p4:=by
 unfold dI
 refine ⟨sumI_le2 _ _ _ _ _ fun i hi=>?_,sumI_le2 _ _ _ _ _ fun i hi=>?_⟩
 all_goals
  have hj:k+i < R.asks.length:=by have:=List.mem_range.mp hi; omega
  have h:=four_on hR hj h12 h23 h34 h4
 ·
  exact if_bits (hw _ hj) h.1
 ·
  exact if_bits (hw _ hj) h.2.1
def CutOk (R:Ring) (w f:Nat→Int) (k:Nat):Prop:=∀ g h,g < R.n→h < R.n→dI R w k g h≤f g+f h∧(f g+f h - dI R w k g h) % 2=0
def leftF (R:Ring) (w f:Nat→Int) (k:Nat) (p:Int) (t:Nat):Int:=f t - if onA R k t then p else w k - p
theorem cut_step {R:Ring} (hR:R.Ok) {w f:Nat→Int} (hw:∀ j,j < R.asks.length→0≤w j) {k:Nat} (hk:k < R.asks.length) (hc:CutOk R w f k) {p:Int}
  (hp:∀ g h,g < R.n→h < R.n→onA R k g=true→onA R k h=true→g≤h→2*p≤f g+f h - dI R w (k+1) g h)
  (hq:p=w k∨∃ a b,a < R.n∧b < R.n∧onA R k a=true∧onA R k b=true∧a≤b∧2*p=f a+f b - dI R w (k+1) a b):CutOk R w (leftF R w f k p) (k+1):=by
 have main:∀ g h,g < R.n→h < R.n→g≤h→dI R w (k+1) g h≤leftF R w f k p g+leftF R w f k p h∧(leftF R w f k p g+leftF R w f k p h - dI R w (k+1) g h) % 2=0:=by
  intro g h hg hh hgh
  obtain ⟨c1,c2⟩:=hc g h hg hh
  have st:=dI_step R w hk g h
  unfold leftF
  cases eg:onA R k g <;> cases eh:onA R k h <;> rw [eg,eh] at st
  ·
   simp only [bne_self_eq_false,Bool.false_eq_true,if_false] at st ⊢
   refine ⟨?_,by omega⟩
   rcases hq with hq | ⟨a,b,ha,hb,ea,eb,hab,e2⟩
   ·
    omega
   ·
    have sag:dI R w k a g=w k+dI R w (k+1) a g:=by rw [dI_step R w hk,ea,eg]; rfl
    have sbh:dI R w k b h=w k+dI R w (k+1) b h:=by rw [dI_step R w hk,eb,eh]; rfl
    have sah:dI R w k a h=w k+dI R w (k+1) a h:=by rw [dI_step R w hk,ea,eh]; rfl
    have sbg:dI R w k b g=w k+dI R w (k+1) b g:=by rw [dI_step R w hk,eb,eg]; rfl
    have cag:=(hc a g ha hg).1
    have cbh:=(hc b h hb hh).1
    have cah:=(hc a h ha hh).1
    have cbg:=(hc b g hb hg).1
    by_cases o1:b≤g
    ·
     have:=(dI_cross hR hw (k+1) hab o1 hgh hh).1
     omega
    ·
     by_cases o2:h≤a
     ·
      have:=(dI_cross hR hw (k+1) hgh o2 hab hb).1
      rw [dI_comm R w (k+1) g a,dI_comm R w (k+1) h b] at this
      omega
     ·
      by_cases o3:g≤a
      ·
       by_cases o4:b≤h
       ·
        have:=(dI_cross hR hw (k+1) o3 hab o4 hh).2
        rw [dI_comm R w (k+1) g b] at this
        omega
       ·
        exfalso
        have:=(four_on hR hk o3 (show a≤h by omega) (show h≤b by omega) hb).2.2
        rw [eg,ea,eh,eb] at this
        exact absurd (this rfl rfl) (by decide)
      ·
       by_cases o4:h≤b
       ·
        have:=(dI_cross hR hw (k+1) (show a≤g by omega) hgh o4 hb).2
        rw [dI_comm R w (k+1) g b] at this
        omega
       ·
        exfalso
        have:=(four_on hR hk (show a≤g by omega) (show g≤b by omega) (show b≤h by omega) hh).2.2
        rw [eg,ea,eh,eb] at this
        exact absurd (this rfl rfl) (by decide)
  ·
   simp only [Bool.false_bne,if_true,if_false,Bool.false_eq_true] at st ⊢
   exact ⟨by omega,by omega⟩
  ·
   simp only [Bool.bne_false,if_true,if_false,Bool.false_eq_true] at st ⊢
   exact ⟨by omega,by omega⟩
  ·
   simp only [bne_self_eq_false,Bool.false_eq_true,if_false,if_true] at st ⊢
   have:=hp g h hg hh eg eh hgh
   exact ⟨by omega,by omega⟩
 intro g h hg hh
 by_cases hgh:g≤h
 ·
  exact main g h hg hh hgh
 ·
  have:=main h g hh hg (by omega)
  rw [dI_comm R w (k+1) h g] at this
  exact ⟨by omega,by omega⟩
end My
namespace My
open PySem L2
def mnI (i j:Int):Int:=if j < i then j else i
theorem foldmin {α:Type} (c:α→Bool) (v:α→Int):∀ (xs:List α) (acc r:Int),xs.foldl (fun t x=>if c x then mnI t (v x) else t) acc=r →
  r≤acc∧(∀ x∈xs,c x=true→r≤v x)∧(r=acc∨∃ x∈xs,c x=true∧r=v x)
 | [],acc,r,e=>by
  rw [List.foldl_nil] at e
  subst e
  exact ⟨Int.le_refl _,fun x hx=>by simp at hx,.inl rfl⟩
 | x::xs,acc,r,e=>by
  rw [List.foldl_cons] at e
  obtain ⟨h1,h2,h3⟩:=foldmin c v xs _ r e
  unfold mnI at h1 h3
  by_cases hc:c x=true
  ·
   rw [if_pos hc] at h1 h3
   by_cases hl:v x < acc
   ·
    rw [if_pos hl] at h1 h3
    refine ⟨by omega,fun y hy hy'=>?_,?_⟩
    ·
     rcases List.mem_cons.mp hy with rfl | hy
     ·
      exact h1
     ·
      exact h2 y hy hy'
    ·
     rcases h3 with h3 | ⟨y,hy,hc',e⟩
     ·
      exact .inr ⟨x,List.mem_cons_self,hc,h3⟩
     ·
      exact .inr ⟨y,List.mem_cons_of_mem _ hy,hc',e⟩
   ·
    rw [if_neg hl] at h1 h3
    refine ⟨by omega,fun y hy hy'=>?_,?_⟩
    ·
     rcases List.mem_cons.mp hy with rfl | hy
     ·
      omega
     ·
      exact h2 y hy hy'
    ·
     rcases h3 with h3 | ⟨y,hy,hc',e⟩
     ·
      exact .inl h3
     ·
      exact .inr ⟨y,List.mem_cons_of_mem _ hy,hc',e⟩
  ·
   rw [if_neg hc] at h1 h3
   refine ⟨h1,fun y hy hy'=>?_,?_⟩
   ·
    rcases List.mem_cons.mp hy with rfl | hy
    ·
     exact absurd hy' hc
    ·
     exact h2 y hy hy'
   ·
    rcases h3 with h3 | ⟨y,hy,hc',e⟩
    ·
     exact .inl h3
    ·
     exact .inr ⟨y,List.mem_cons_of_mem _ hy,hc',e⟩
def onT (R:Ring) (k:Nat):List Nat:=(PySem.W.sortI ((wayL R.n (br R k) true).map fun (t:Nat)=>(t:Int))).map Int.toNat
theorem mem_onT {R:Ring} {k t:Nat}:t∈onT R k↔t∈wayL R.n (br R k) true:=by
 unfold onT
 constructor
 ·
  intro h
  obtain ⟨x,hx,rfl⟩:=List.mem_map.mp h
  obtain ⟨s,hs,rfl⟩:=List.mem_map.mp ((PySem.W.sortI_perm _).mem_iff.mp hx)
  exact hs
 ·
  intro h
  exact List.mem_map.mpr ⟨(t:Int),(PySem.W.sortI_perm _).mem_iff.mpr (List.mem_map.mpr ⟨t,h,rfl⟩),rfl⟩
theorem way_lt {n:Nat} {a:Ask} (h:AskOk n a) {t:Nat} (ht:t∈wayL n a true):t < n:=by
 have h1:=h.one
 unfold wayL onL at ht
 simp only [if_true] at ht
 obtain ⟨s,_,rfl⟩:=List.mem_map.mp ht
 exact Nat.mod_lt _ (by omega)
theorem onT_iff {R:Ring} (hR:R.Ok) {k:Nat} (hk:k < R.asks.length) {t:Nat}:t∈onT R k↔t < R.n∧onA R k t=true:=by
 have ha:=fG hR hk
 rw [mem_onT]
 constructor
 ·
  intro h
  have ht:=way_lt ha h
  have:=(mem_way ha true ht).mp h
  exact ⟨ht,by unfold onA; simpa using this⟩
 ·
  rintro ⟨ht,h⟩
  refine (mem_way ha true ht).mpr ?_
  unfold onA at h
  rw [h]; rfl
def valI (R:Ring) (w f:Nat→Int) (k g h:Nat):Int:=f g+f h - dI R w (k+1) g h
def innerI (R:Ring) (w f:Nat→Int) (k:Nat) (acc:Int) (g:Nat) (hs:List Nat):Int:=hs.foldl (fun t h=>if decide (g≤h) then mnI t (valI R w f k g h) else t) acc
def twiceI (R:Ring) (w f:Nat→Int) (k:Nat) (gs:List Nat):Int:=gs.foldl (fun t g=>innerI R w f k t g (onT R k)) (2*w k)
def partI (R:Ring) (w f:Nat→Int) (k:Nat):Int:=(twiceI R w f k (onT R k)).fdiv 2
theorem twice_ok (R:Ring) (w f:Nat→Int) (k:Nat):∀ (gs:List Nat) (acc r:Int),gs.foldl (fun t g=>innerI R w f k t g (onT R k)) acc=r →
  r≤acc∧(∀ g∈gs,∀ h∈onT R k,g≤h→r≤valI R w f k g h)∧(r=acc∨∃ g∈gs,∃ h∈onT R k,g≤h∧r=valI R w f k g h)
 | [],acc,r,e=>by
  rw [List.foldl_nil] at e
  subst e
  exact ⟨Int.le_refl _,fun x hx=>by simp at hx,.inl rfl⟩
 | g::gs,acc,r,e=>by
  rw [List.foldl_cons] at e
  obtain ⟨i1,i2,i3⟩:=foldmin (fun h=>decide (g≤h)) (valI R w f k g) (onT R k) acc _ rfl
  obtain ⟨h1,h2,h3⟩:=twice_ok R w f k gs _ r e
  unfold innerI at h1 h3
  generalize (onT R k).foldl (fun t h=>if decide (g≤h) then mnI t (valI R w f k g h) else t) acc=z at *
  refine ⟨by omega,fun y hy h hh hyh=>?_,?_⟩
  ·
   rcases List.mem_cons.mp hy with rfl | hy
   ·
    have:=i2 h hh (decide_eq_true hyh)
    omega
   ·
    exact h2 y hy h hh hyh
  ·
   rcases h3 with h3 | ⟨y,hy,h,hh,c,e⟩
   ·
    rcases i3 with i3 | ⟨h,hh,c,e⟩
    ·
     exact .inl (h3.trans i3)
    ·
     exact .inr ⟨g,List.mem_cons_self,h,hh,of_decide_eq_true c,h3.trans e⟩
   ·
    exact .inr ⟨y,List.mem_cons_of_mem _ hy,h,hh,c,e⟩
theorem part_ok {R:Ring} (hR:R.Ok) {w f:Nat→Int} (hw:∀ j,j < R.asks.length→0≤w j) {k:Nat} (hk:k < R.asks.length) (hc:CutOk R w f k) :
  0≤partI R w f k∧partI R w f k≤w k∧CutOk R w (leftF R w f k (partI R w f k)) (k+1):=by
 obtain ⟨h1,h2,h3⟩:=twice_ok R w f k (onT R k) (2*w k) _ rfl
 have e:twiceI R w f k (onT R k)=(onT R k).foldl (fun t g=>innerI R w f k t g (onT R k)) (2*w k):=rfl
 have hwk:=hw k hk
 have hv:∀ g h,g∈onT R k→h∈onT R k→0≤valI R w f k g h∧valI R w f k g h % 2=0:=fun g h hg hh=>by
  obtain ⟨g1,g2⟩:=(onT_iff hR hk).mp hg
  obtain ⟨k1,k2⟩:=(onT_iff hR hk).mp hh
  obtain ⟨c1,c2⟩:=hc g h g1 k1
  have st:=dI_step R w hk g h
  rw [g2,k2] at st
  simp only [bne_self_eq_false,Bool.false_eq_true,if_false] at st
  unfold valI
  exact ⟨by omega,by omega⟩
 unfold partI
 rw [e,Int.fdiv_eq_ediv_of_nonneg _ (by decide)]
 generalize (onT R k).foldl (fun t g=>innerI R w f k t g (onT R k)) (2*w k)=r at *
 have hr:0≤r∧r % 2=0:=by
  rcases h3 with rfl | ⟨g,hg,h,hh,_,rfl⟩
  ·
   omega
  ·
   exact hv g h hg hh
 have hp:2*(r / 2)=r:=by omega
 refine ⟨by omega,by omega,cut_step hR hw hk hc (fun g h hg hh eg eh hgh=>?_) ?_⟩
 ·
  rw [hp]
  exact h2 g ((onT_iff hR hk).mpr ⟨hg,eg⟩) h ((onT_iff hR hk).mpr ⟨hh,eh⟩) hgh
 ·
  rcases h3 with h3 | ⟨g,hg,h,hh,hgh,h3⟩
  ·
   exact .inl (by omega)
  ·
   obtain ⟨g1,g2⟩:=(onT_iff hR hk).mp hg
   obtain ⟨k1,k2⟩:=(onT_iff hR hk).mp hh
   exact .inr ⟨g,h,g1,k1,g2,k2,hgh,by rw [hp]; exact h3⟩
def fAt (R:Ring) (w f:Nat→Int):Nat→Nat→Int
 | 0=>f
 | k+1=>leftF R w (fAt R w f k) k (partI R w (fAt R w f k) k)
def pAt (R:Ring) (w f:Nat→Int) (k:Nat):Int:=partI R w (fAt R w f k) k
theorem run_ok {R:Ring} (hR:R.Ok) {w f:Nat→Int} (hw:∀ j,j < R.asks.length→0≤w j) (hc:CutOk R w f 0):∀ k,k≤R.asks.length→CutOk R w (fAt R w f k) k
 | 0,_=>hc
 | k+1,h=>(part_ok hR hw (by omega) (run_ok hR hw hc k (by omega))).2.2
theorem parts_ok {R:Ring} (hR:R.Ok) {w f:Nat→Int} (hw:∀ j,j < R.asks.length→0≤w j) (hc:CutOk R w f 0) {k:Nat} (hk:k < R.asks.length):0≤pAt R w f k∧pAt R w f k≤w k :=
 let h:=part_ok hR hw hk (run_ok hR hw hc k (by omega))
 ⟨h.1,h.2.1⟩
end My
namespace My
open PySem L2
theorem den_dvd {t b:Int} (h:b≠0):(Rat.divInt t b).den∣b.natAbs:=by
 rw [Rat.den_divInt,if_neg h]
 exact Nat.div_dvd_of_dvd (by rw [Int.gcd]; exact Nat.gcd_dvd_left _ _)
theorem mul_den_dvd (p q:Rat):(p*q).den∣p.den*q.den:=by
 have e:p*q=Rat.divInt (p.num*q.num) ((p.den:Int)*q.den):=by
  rw [← Rat.divInt_mul_divInt,Rat.num_divInt_den,Rat.num_divInt_den]
 rw [e]
 have:=den_dvd (t:=p.num*q.num) (b:=(p.den:Int)*q.den) (Int.mul_ne_zero (den_neI _) (den_neI _))
 rwa [Int.natAbs_mul,Int.natAbs_natCast,Int.natAbs_natCast] at this
theorem num_cast (q:Rat):(q.num:Rat)=q*(q.den:Rat):=by
 have h:((q.den:Int):Rat)≠0:=fun e=>den_neI q (by
  have:((q.den:Int):Rat)=((0:Int):Rat):=e
  exact Rat.intCast_inj.mp this)
 have e:q=(q.num:Rat) / ((q.den:Int):Rat):=by
  conv=>lhs; rw [← Rat.num_divInt_den q,Rat.divInt_eq_div]
 have:=Rat.div_mul_cancel (a:=(q.num:Rat)) h
 rw [← e] at this
 exact this.symm
def cbN (qs:List Rat):Nat:=qs.foldl (fun b q=>Nat.lcm b q.den) 1
theorem cb_from:∀ (qs:List Rat) (b:Nat),b∣qs.foldl (fun b q=>Nat.lcm b q.den) b∧(∀ q∈qs,q.den∣qs.foldl (fun b q=>Nat.lcm b q.den) b)∧∀ P,b∣P→(∀ q∈qs,q.den∣P)→qs.foldl (fun b q=>Nat.lcm b q.den) b∣P
 | [],b=>⟨Nat.dvd_refl _,fun q hq=>by simp at hq,fun P h _=>h⟩
 | q::qs,b=>by
  obtain ⟨h1,h2,h3⟩:=cb_from qs (Nat.lcm b q.den)
  rw [List.foldl_cons]
  refine ⟨Nat.dvd_trans (Nat.dvd_lcm_left _ _) h1,fun p hp=>?_,fun P hb hP=>h3 P (Nat.lcm_dvd hb (hP q List.mem_cons_self)) fun p hp=>hP p (List.mem_cons_of_mem _ hp)⟩
  rcases List.mem_cons.mp hp with rfl | hp
  ·
   exact Nat.dvd_trans (Nat.dvd_lcm_right _ _) h1
  ·
   exact h2 p hp
theorem cb_dvd {qs:List Rat} {q:Rat} (h:q∈qs):q.den∣cbN qs:=(cb_from qs 1).2.1 q h
theorem cb_le {qs:List Rat} {P:Nat} (h:∀ q∈qs,q.den∣P):cbN qs∣P:=(cb_from qs 1).2.2 P (Nat.one_dvd _) h
def unitI (u:Nat) (q:Rat):Int:=q.num*((u / q.den:Nat):Int)
theorem unit_cast {u:Nat} {q:Rat} (h:q.den∣u):((unitI u q:Int):Rat)=q*(u:Rat):=by
 obtain ⟨c,rfl⟩:=h
 unfold unitI
 rw [Nat.mul_div_cancel_left _ (den_pos q),Rat.intCast_mul,num_cast,Rat.intCast_natCast,Rat.natCast_mul,Rat.mul_assoc]
theorem unit_even {B:Nat} {q:Rat} (h:q.den∣B):unitI (2*B) q % 2=0:=by
 obtain ⟨c,rfl⟩:=h
 unfold unitI
 rw [show 2*(q.den*c)=q.den*(2*c) by rw [← Nat.mul_assoc,← Nat.mul_assoc,Nat.mul_comm 2],Nat.mul_div_cancel_left _ (den_pos q)]
 rw [show ((2*c:Nat):Int)=2*(c:Int) by omega,← Int.mul_assoc,Int.mul_comm q.num 2,Int.mul_assoc]
 exact Int.mul_emod_right _ _
theorem unit_nonneg {u:Nat} {q:Rat} (h:0≤q):0≤unitI u q:=Int.mul_nonneg (Rat.num_nonneg.mpr h) (Int.natCast_nonneg _)
def sizesL (R:Ring):List Rat:=R.asks.map (·.size)
def mostL (R:Ring) (q:Rat):List Rat:=R.rooms.map fun r=>q*r
def cbR (R:Ring) (q:Rat):Nat:=cbN (sizesL R++mostL R q)
def aP (R:Ring) (q:Rat):Nat:=2*cbR R q
def wI (R:Ring) (q:Rat) (j:Nat):Int:=unitI (aP R q) (br R j).size
def f0I (R:Ring) (q:Rat) (t:Nat):Int:=unitI (aP R q) (q*R.room t)
theorem size_den {R:Ring} {j:Nat} (h:j < R.asks.length) (q:Rat):(br R j).size.den∣cbR R q:=by
 refine cb_dvd (List.mem_append_left _ (List.mem_map.mpr ⟨br R j,?_,rfl⟩))
 rw [db h]
 exact List.getElem_mem h
theorem room_mem {R:Ring} {t:Nat} (h:t < R.n):R.room t∈R.rooms:=by
 unfold Ring.room
 have h':t < R.rooms.length:=h
 rw [List.getD_eq_getElem?_getD,List.getElem?_eq_getElem h']
 exact List.getElem_mem h'
theorem most_den {R:Ring} {t:Nat} (h:t < R.n) (q:Rat):(q*R.room t).den∣cbR R q :=
 cb_dvd (List.mem_append_right _ (List.mem_map.mpr ⟨R.room t,room_mem h,rfl⟩))
theorem dvd_two {a b:Nat} (h:a∣b):a∣2*b:=Nat.dvd_trans h (Nat.dvd_mul_left _ _)
theorem w_cast {R:Ring} {q:Rat} {j:Nat} (h:j < R.asks.length):((wI R q j:Int):Rat)=(br R j).size*(aP R q:Rat):=unit_cast (dvd_two (size_den h q))
theorem f_cast {R:Ring} {q:Rat} {t:Nat} (h:t < R.n):((f0I R q t:Int):Rat)=q*R.room t*(aP R q:Rat):=unit_cast (dvd_two (most_den h q))
theorem w_nonneg {R:Ring} (hR:R.Ok) (q:Rat):∀ j,j < R.asks.length→0≤wI R q j:=fun j h=>unit_nonneg (fG hR h).size
theorem denP_dvd:∀ {qs:List Rat} {q:Rat},q∈qs→q.den∣denP qs
 | p::qs,q,h=>by
  show q.den∣p.den*denP qs
  rcases List.mem_cons.mp h with rfl | h
  ·
   exact Nat.dvd_mul_right _ _
  ·
   exact Nat.dvd_trans (denP_dvd h) (Nat.dvd_mul_left _ _)
theorem denP_lt:∀ {qs:List Rat},(∀ q∈qs,RB 60 q)→denP qs≤2 ^ (60*qs.length)
 | [],_=>Nat.le_refl 1
 | q::qs,h=>by
  have h1:=(h q List.mem_cons_self).2
  have h2:=denP_lt fun p hp=>h p (List.mem_cons_of_mem _ hp)
  show q.den*denP qs≤2 ^ (60*(qs.length+1))
  rw [Nat.mul_add,Nat.mul_one,Nat.pow_add,Nat.mul_comm (2 ^ _)]
  exact Nat.mul_le_mul (Nat.le_of_lt h1) h2
theorem cb_pos (R:Ring) (q:Rat):0 < cbR R q:=by
 have hd:cbR R q∣denP (sizesL R++mostL R q):=cb_le fun p hp=>denP_dvd hp
 exact Nat.pos_of_dvd_of_pos hd (denP_pos _)
theorem units_lt {R:Ring} (hR:R.Ok) {q:Rat} (hq:RB 1750 q):0 < aP R q∧aP R q < 2 ^ 3750:=by
 obtain ⟨D,d0,d1,hD⟩:=hR.cd
 have hd:cbR R q∣D*(q.den*denP R.rooms):=by
  refine cb_le fun p hp=>?_
  rcases List.mem_append.mp hp with hp | hp
  ·
   obtain ⟨a,ha,rfl⟩:=List.mem_map.mp hp
   exact Nat.dvd_trans (hD a ha) (Nat.dvd_mul_right _ _)
  ·
   obtain ⟨r,hr,rfl⟩:=List.mem_map.mp hp
   refine Nat.dvd_trans (mul_den_dvd q r) (Nat.dvd_trans (Nat.mul_dvd_mul_left _ (denP_dvd hr)) (Nat.dvd_mul_left _ _))
 have h1:D≤2 ^ 1240:=Nat.le_of_lt d1
 have h2:denP R.rooms≤2 ^ 720:=by
  refine Nat.le_trans (denP_lt fun p hp=>(hR.room p hp).2) (Nat.pow_le_pow_right (by decide) ?_)
  have:R.rooms.length≤12:=hR.hi
  omega
 have h3:q.den≤2 ^ 1750:=Nat.le_of_lt hq.2
 have h4:cbR R q≤D*(q.den*denP R.rooms):=Nat.le_of_dvd (Nat.mul_pos d0 (Nat.mul_pos (den_pos _) (denP_pos _))) hd
 have h5:D*(q.den*denP R.rooms)≤2 ^ 1240*(2 ^ 1750*2 ^ 720):=Nat.mul_le_mul h1 (Nat.mul_le_mul h3 h2)
 have h6:2 ^ 1240*(2 ^ 1750*2 ^ 720)=2 ^ 3710:=by rw [← Nat.pow_add,← Nat.pow_add]
 rw [h6] at h5
 have h0:=cb_pos R q
 have h7:(2:Nat) ^ 3711=2*2 ^ 3710:=by rw [Nat.pow_succ,Nat.mul_comm]
 have h8:(2:Nat) ^ 3711 < 2 ^ 3750:=Nat.pow_lt_pow_right (by decide) (by decide)
 unfold aP
 refine ⟨by omega,?_⟩
 generalize (2:Nat) ^ 3750=z at *
 generalize (2:Nat) ^ 3710=y at *
 generalize (2:Nat) ^ 3711=x at *
 omega
end My
namespace My
open PySem L2
theorem asks_range (R:Ring):R.asks=(List.range R.asks.length).map (br R):=by
 refine List.ext_getElem (by simp) fun j h1 h2=>?_
 rw [List.getElem_map,List.getElem_range,db h1]
theorem sum_filterQ {α:Type} (p:α→Bool) (f:α→Rat):∀ xs:List α,sumQ ((xs.filter p).map f)=sumQ (xs.map fun a=>if p a then f a else 0)
 | []=>rfl
 | x::xs=>by
  rw [List.filter_cons,List.map_cons,dA,← sum_filterQ p f xs]
  cases p x
  ·
   simp [Rat.zero_add]
  ·
   simp [dA]
theorem across_range (R:Ring) (c:Nat×Nat):acrossQ R.asks c=sumQ ((List.range R.asks.length).map fun j=>if apart c (br R j).one (br R j).other then (br R j).size else 0):=by
 unfold acrossQ
 rw [sum_filterQ]
 conv=>lhs; rw [asks_range R,List.map_map]
 rfl
theorem sum_cast (F:Nat→Int) (G:Nat→Rat) (u:Rat):∀ xs:List Nat,(∀ j∈xs,((F j:Int):Rat)=G j*u)→(((xs.map F).sum:Int):Rat)=sumQ (xs.map G)*u
 | [],_=>by
  show ((0:Int):Rat)=0*u
  rw [Rat.zero_mul]; rfl
 | x::xs,h=>by
  rw [List.map_cons,List.sum_cons,Rat.intCast_add,h x List.mem_cons_self,sum_cast F G u xs fun j hj=>h j (List.mem_cons_of_mem _ hj),List.map_cons,dA,Rat.add_mul]
theorem dI_cast {R:Ring} (hR:R.Ok) {q:Rat} {g h:Nat} (hc:IsCut R.n (g,h)):((dI R (wI R q) 0 g h:Int):Rat)=acrossQ R.asks (g,h)*(aP R q:Rat):=by
 rw [across_range]
 unfold dI
 rw [Nat.sub_zero]
 refine sum_cast _ _ _ _ fun j hj=>?_
 have hj:=List.mem_range.mp hj
 rw [Nat.zero_add,apart_iff (fG hR hj) hc]
 show (((if onA R j g != onA R j h then wI R q j else 0:Int)):Rat)=(if onA R j g != onA R j h then (br R j).size else 0)*_
 cases (onA R j g != onA R j h)
 ·
  simp only [Bool.false_eq_true,if_false]
  rw [Rat.zero_mul]; rfl
 ·
  simp only [if_true]
  exact w_cast hj
theorem sum_even (F:Nat→Int):∀ xs:List Nat,(∀ j∈xs,F j % 2=0)→(xs.map F).sum % 2=0
 | [],_=>rfl
 | x::xs,h=>by
  have h1:=h x List.mem_cons_self
  have h2:=sum_even F xs fun j hj=>h j (List.mem_cons_of_mem _ hj)
  rw [List.map_cons,List.sum_cons]
  omega
theorem start_ok {R:Ring} (hR:R.Ok) {q:Rat} (hq:RB 1750 q) (hs:∀ c,IsCut R.n c→shownQ R c≤q):CutOk R (wI R q) (f0I R q) 0:=by
 have u0:0 < aP R q:=(units_lt hR hq).1
 have uQ:(0:Rat) < (aP R q:Rat):=Rat.natCast_pos.mpr u0
 have main:∀ g h,g < R.n→h < R.n→g≤h→dI R (wI R q) 0 g h≤f0I R q g+f0I R q h:=by
  intro g h hg hh hgh
  have hc:IsCut R.n (g,h):=⟨hgh,hh⟩
  refine Rat.intCast_le_intCast.mp ?_
  rw [dI_cast hR hc,Rat.intCast_add,f_cast hg,f_cast hh]
  have h1:=hs (g,h) hc
  unfold shownQ at h1
  rw [div_le_iff' (rooms_pos hR hc).1] at h1
  have h2:=Rat.mul_le_mul_of_nonneg_right h1 (Rat.le_of_lt uQ)
  have e:q*roomsQ R (g,h)*(aP R q:Rat)=q*R.room g*(aP R q:Rat)+q*R.room h*(aP R q:Rat):=by
   show q*(R.room g+R.room h)*_=_
   rw [Rat.mul_add,Rat.add_mul]
  rw [← e]
  exact h2
 have ev:∀ g h,g < R.n→h < R.n→(f0I R q g+f0I R q h - dI R (wI R q) 0 g h) % 2=0:=by
  intro g h hg hh
  have e1:f0I R q g % 2=0:=unit_even (most_den hg q)
  have e2:f0I R q h % 2=0:=unit_even (most_den hh q)
  have e3:dI R (wI R q) 0 g h % 2=0:=by
   unfold dI
   refine sum_even _ _ fun j hj=>?_
   have hj:j < R.asks.length:=by have:=List.mem_range.mp hj; omega
   rw [Nat.zero_add]
   split
   ·
    exact unit_even (size_den hj q)
   ·
    rfl
  omega
 intro g h hg hh
 refine ⟨?_,ev g h hg hh⟩
 by_cases hgh:g≤h
 ·
  exact main g h hg hh hgh
 ·
  have:=main h g hh hg (by omega)
  rw [dI_comm] at this
  omega
def pI (R:Ring) (q:Rat) (k:Nat):Int:=pAt R (wI R q) (f0I R q) k
def sendQ (R:Ring) (q:Rat) (k:Nat):Rat:=Rat.divInt (pI R q k) (aP R q:Int)
def sendL (R:Ring) (q:Rat):List Rat:=(List.range R.asks.length).map (sendQ R q)
theorem send_cast {R:Ring} (hR:R.Ok) {q:Rat} (hq:RB 1750 q) (k:Nat):sendQ R q k*(aP R q:Rat)=((pI R q k:Int):Rat):=by
 have u0:0 < aP R q:=(units_lt hR hq).1
 have uQ:(0:Rat) < (aP R q:Rat):=Rat.natCast_pos.mpr u0
 unfold sendQ
 rw [Rat.divInt_eq_div,Rat.intCast_natCast]
 exact Rat.div_mul_cancel (by grind)
theorem zip_range {α β:Type} (f:Nat→α) (g:Nat→β) (m:Nat):((List.range m).map f).zip ((List.range m).map g)=(List.range m).map fun k=>(f k,g k):=by
 rw [List.zip_map']
end My
namespace My
open PySem L2
def intL (n:Nat) (f:Nat→Int):List D:=(List.range n).map fun (t:Nat)=>D.int (f t)
theorem intL_len (n:Nat) (f:Nat→Int):(intL n f).length=n:=by simp [intL]
theorem intL_at {n:Nat} {f:Nat→Int} {t:Nat} (h:t < n):atI (intL n f) (t:Int)=some (.int (f t)):=by
 refine ft ?_
 unfold intL
 rw [List.getElem?_map,List.getElem?_range h]
 rfl
theorem lcm_int {a b:Nat} (h:0 < b):((a:Int).fdiv (Int.gcd a b:Int))*(b:Int)=((Nat.lcm a b:Nat):Int):=by
 rw [Int.fdiv_eq_ediv_of_nonneg _ (by omega)]
 show ((a:Int) / ((Nat.gcd a b:Nat):Int))*(b:Int)=_
 rw [← Int.natCast_ediv,← Int.natCast_mul,Nat.div_mul_right_comm (Nat.gcd_dvd_left a b)]
 rfl
theorem w_list (R:Ring) (q:Rat):(sizesL R).map (fun p=>D.int (unitI (aP R q) p))=intL R.asks.length (wI R q):=by
 unfold sizesL intL
 conv=>lhs; rw [asks_range R,List.map_map,List.map_map]
 rfl
theorem rooms_range (R:Ring):R.rooms=(List.range R.n).map R.room:=by
 refine List.ext_getElem (by simp [Ring.n]) fun j h1 h2=>?_
 rw [List.getElem_map,List.getElem_range]
 unfold Ring.room
 rw [List.getD_eq_getElem?_getD,List.getElem?_eq_getElem h1]
 rfl
theorem f_list (R:Ring) (q:Rat):(mostL R q).map (fun p=>D.int (unitI (aP R q) p))=intL R.n (f0I R q):=by
 unfold mostL intL
 conv=>lhs; rw [rooms_range R,List.map_map,List.map_map]
 rfl
end My
namespace My
open PySem L2
end My
namespace My
open PySem L2
theorem send_len (R:Ring) (q:Rat):(sendL R q).length=R.asks.length:=by unfold sendL; simp
end My
set_option exponentiation.threshold 2000
namespace L2
open PySem
end L2
set_option exponentiation.threshold 5000
namespace My
open PySem L2
structure LB (R:Ring) (ps:List Rat):Prop where
 p:∀ p∈ps,RB 4100 p
 ld:∀ k t,RB 4100 (e8 R.n (R.asks.take k) (ps.take k) t)
 st:∀ (k:Nat) (h1:k < R.asks.length) (h2:k < ps.length) (t:Nat),RB 4100 (sent R.n R.asks[k] ps[k] t)
 sm:∀ t,SumOk ((R.asks.zip ps).map fun x=>sent R.n x.1 x.2 t)
theorem LB.all {R:Ring} {ps:List Rat} (h:LB R ps) (hl:ps.length=R.asks.length) (t:Nat):RB 4100 (e8 R.n R.asks ps t):=by
 have:=h.ld R.asks.length t
 rwa [List.take_of_length_le (Nat.le_refl _),List.take_of_length_le (by omega)] at this
theorem LB.of {R:Ring} (hR:R.Ok) (hT:∀ a∈R.asks,RB 60 a.size) {ps:List Rat} {c:Nat} (hb:∀ p∈ps,RB c p) (hc:c≤100):LB R ps:=by
 refine ⟨fun p hp=>(hb p hp).mono (by omega),fun k t=>?_,fun k h1 h2 t=>?_,fun t=>.inl ?_⟩
 ·
  exact (loadQ_RB (take_mem hT) (take_mem hb) (by rw [List.length_take]; have:=hR.few; omega) t).mono (by omega)
 ·
  exact (sent_RB (hT _ (List.getElem_mem h1)) (hb _ (List.getElem_mem h2)) t).mono (by omega)
 ·
  refine Nat.lt_of_le_of_lt (denP_le (b:=161) _ fun q hq=>?_) (Nat.pow_lt_pow_right (by decide) ?_)
  ·
   obtain ⟨x,hx,rfl⟩:=List.mem_map.mp hq
   obtain ⟨h1,h2⟩:=List.of_mem_zip (a:=x.1) (b:=x.2) hx
   exact (sent_RB (hT _ h1) (hb _ h2) t).mono (by omega)
  ·
   rw [List.length_map,List.length_zip]
   have:=hR.few
   omega
theorem w_abs {R:Ring} (hR:R.Ok) {q:Rat} (hq:RB 1750 q) {j:Nat} (h:j < R.asks.length):(wI R q j).natAbs < 2 ^ 4050:=by
 have h1:=(units_lt hR hq).2
 have h2:=num_lt_of (V:=2 ^ 300) (fG hR h).size (fG hR h).lt
 unfold wI unitI
 rw [Int.natAbs_mul,Int.natAbs_natCast]
 have h3:(br R j).size.den*(aP R q / (br R j).size.den)≤aP R q:=Nat.mul_div_le _ _
 have e:(2:Nat) ^ 4050=2 ^ 300*2 ^ 3750:=by rw [← Nat.pow_add]
 have h4:(br R j).size.num.natAbs*(aP R q / (br R j).size.den)≤2 ^ 300*aP R q:=by
  refine Nat.le_trans (Nat.mul_le_mul_right _ (Nat.le_of_lt h2)) ?_
  rw [Nat.mul_assoc]
  exact Nat.mul_le_mul_left _ h3
 rw [e]
 exact Nat.lt_of_le_of_lt h4 (Nat.mul_lt_mul_of_pos_left h1 (Nat.pow_pos (by decide)))
theorem send_at {R:Ring} {q:Rat} {k:Nat} (h:k < (sendL R q).length):(sendL R q)[k]=sendQ R q k:=by simp [sendL]
def zI (R:Ring) (q:Rat) (t j:Nat):Int:=if isOn R.n (br R j) t then pI R q j else wI R q j - pI R q j
theorem z_cast {R:Ring} (hR:R.Ok) {q:Rat} (hq:RB 1750 q) (t:Nat) {j:Nat} (h:j < R.asks.length):((zI R q t j:Int):Rat)=sent R.n (br R j) (sendQ R q j) t*(aP R q:Rat):=by
 unfold zI sent
 split
 ·
  exact (send_cast hR hq j).symm
 ·
  have e1:=send_cast hR hq j
  have e2:=w_cast (R:=R) (q:=q) h
  rw [Rat.intCast_sub,e2,← e1]
  grind
theorem z_abs {R:Ring} (hR:R.Ok) {q:Rat} (hq:RB 1750 q) (hs:∀ c,IsCut R.n c→shownQ R c≤q) (t:Nat) {j:Nat} (h:j < R.asks.length):0≤zI R q t j∧zI R q t j < 2 ^ 4050:=by
 have hw:=w_abs hR hq h
 have w0:=w_nonneg hR q j h
 obtain ⟨p0,p1⟩:=parts_ok hR (w_nonneg hR q) (start_ok hR hq hs) h
 have e:((2 ^ 4050:Nat):Int)=2 ^ 4050:=by norm_cast
 have hw':wI R q j < 2 ^ 4050:=by rw [← e]; omega
 have p0':0≤pI R q j:=p0
 have p1':pI R q j≤wI R q j:=p1
 generalize (2:Int) ^ 4050=B at hw'
 unfold zI
 split <;> omega
theorem z_sum {R:Ring} (hR:R.Ok) {q:Rat} (hq:RB 1750 q) (hs:∀ c,IsCut R.n c→shownQ R c≤q) (t:Nat):∀ k,k≤R.asks.length→∃ z:Int,e8 R.n (R.asks.take k) ((sendL R q).take k) t*(aP R q:Rat)=(z:Rat)∧0≤z∧z≤(k:Int)*2 ^ 4050
 | 0,_=>⟨0,by
   show sumQ []*_=_
   rw [sumQ_nil,Rat.zero_mul]
   rfl,by omega,by simp⟩
 | k+1,h=>by
  obtain ⟨z,e,z0,z1⟩:=z_sum hR hq hs t k (by omega)
  have hk:k < R.asks.length:=by omega
  have hk2:k < (sendL R q).length:=by rw [send_len]; exact hk
  obtain ⟨y0,y1⟩:=z_abs hR hq hs t hk
  refine ⟨z+zI R q t k,?_,by omega,?_⟩
  ·
   rw [loadQ_succ hk hk2,Rat.add_mul,e,Rat.intCast_add,z_cast hR hq t hk,send_at,db hk]
  ·
   generalize (2:Int) ^ 4050=B at *
   have:((k+1:Nat):Int)*B=(k:Int)*B+B:=by push_cast; rw [Int.add_mul,Int.one_mul]
   rw [this]
   omega
end My
namespace My
open PySem L2
def ratB:D→Bool
 | .tup [.int i,.int j]=>decide (1≤j) && decide ((Int.gcd i j:Int)=1)
 | _=>false
theorem ratB_no {d:D} (h:∀ i j,d≠.tup [.int i,.int j]):ratB d=false:=by
 unfold ratB
 split
 ·
  rename_i i j
  exact absurd rfl (h i j)
 ·
  rfl
end My
namespace My
open PySem L2
mutual
def widD:D→Nat
 | .tup xs=>max xs.length (widDs xs)
 | .lst xs=>max xs.length (widDs xs)
 | _=>0
def widDs:List D→Nat
 | []=>0
 | x::xs=>max (widD x) (widDs xs)
end
theorem widDs_mem {x:D}:∀ {xs:List D},x∈xs→widD x≤widDs xs
 | y::ys,h=>by
  simp only [widDs]
  rcases List.mem_cons.mp h with rfl | h
  ·
   omega
  ·
   have:=widDs_mem h; omega
theorem widDs_le {n:Nat}:∀ {xs:List D},(∀ x∈xs,widD x≤n)→widDs xs≤n
 | [],_=>Nat.zero_le _
 | y::ys,h=>by
  simp only [widDs]
  have:=h y List.mem_cons_self
  have:=widDs_le (xs:=ys) fun x hx=>h x (List.mem_cons_of_mem _ hx)
  omega
theorem size99 {n:Nat} (h:n≤99):n≤sizeLine:=Nat.le_trans h (by decide)
theorem widD_fr (q:Rat):widD (frD q)=2:=by simp [frD,widD,widDs]
theorem widD_ask (a:Ask):widD (askD a)=4:=by
 have:=widD_fr a.size
 simp [askD,widD,widDs,this]
theorem widD_frs {qs:List Rat} {n:Nat} (h:qs.length≤n) (h2:2≤n):widD (.lst (qs.map frD))≤n:=by
 simp only [widD,List.length_map]
 have:=widDs_le (n:=2) (xs:=qs.map frD) fun x hx=>by
  obtain ⟨q,_,rfl⟩:=List.mem_map.mp hx
  rw [widD_fr]
  exact Nat.le_refl _
 omega
theorem widD_asks {as:List Ask} {n:Nat} (h:as.length≤n) (h2:4≤n):widD (.lst (as.map askD))≤n:=by
 simp only [widD,List.length_map]
 have:=widDs_le (n:=4) (xs:=as.map askD) fun x hx=>by
  obtain ⟨q,_,rfl⟩:=List.mem_map.mp hx
  rw [widD_ask]
  exact Nat.le_refl _
 omega
theorem widD_ring {R:Ring} (h1:R.n≤99) (h2:R.asks.length≤99):widD (aR R)≤99:=by
 have h1:=widD_frs (qs:=R.rooms) (n:=99) h1 (by decide)
 have h2:=widD_asks (as:=R.asks) (n:=99) h2 (by decide)
 simp only [aR,widD,widDs,List.length_cons,List.length_nil] at h1 h2 ⊢
 omega
structure SmD (n:Nat) (d:D):Prop where
 dep:depD d < n
 wid:widD d≤99
theorem SmD.mono {n m:Nat} {d:D} (h:SmD n d) (hm:n≤m):SmD m d:=⟨Nat.lt_of_lt_of_le h.dep hm,h.wid⟩
theorem SmD.lst {n:Nat} {xs:List D} (h:SmD (n+1) (.lst xs)):xs.length≤sizeLine∧∀ x∈xs,SmD n x:=by
 obtain ⟨h1,h2⟩:=h
 simp only [depD,widD] at h1 h2
 exact ⟨size99 (by omega),fun x hx=>⟨by have:=depDs_mem hx; omega,by have:=widDs_mem hx; omega⟩⟩
theorem SmD.tup {n:Nat} {xs:List D} (h:SmD (n+1) (.tup xs)):xs.length≤sizeLine∧∀ x∈xs,SmD n x:=by
 obtain ⟨h1,h2⟩:=h
 simp only [depD,widD] at h1 h2
 exact ⟨size99 (by omega),fun x hx=>⟨by have:=depDs_mem hx; omega,by have:=widDs_mem hx; omega⟩⟩
theorem depD_fr (q:Rat):depD (frD q)=1:=by simp [frD,depD,depDs]
theorem depD_ask (a:Ask):depD (askD a)=2:=by
 have:=depD_fr a.size
 simp [askD,depD,depDs,this]
theorem depD_lst {xs:List D} {n:Nat} (h:∀ x∈xs,depD x≤n):depD (.lst xs)≤n+1:=by
 simp only [depD]
 have:=depDs_le h
 omega
theorem depD_frs (qs:List Rat):depD (.lst (qs.map frD))≤2:=depD_lst fun x hx=>by
 obtain ⟨q,_,rfl⟩:=List.mem_map.mp hx
 rw [depD_fr]
 exact Nat.le_refl _
theorem depD_asks (as:List Ask):depD (.lst (as.map askD))≤3:=depD_lst fun x hx=>by
 obtain ⟨q,_,rfl⟩:=List.mem_map.mp hx
 rw [depD_ask]
 exact Nat.le_refl _
theorem depD_ring (R:Ring):depD (aR R)≤4:=by
 have h1:=depD_frs R.rooms
 have h2:=depD_asks R.asks
 simp only [aR,depD,depDs] at h1 h2 ⊢
 omega
theorem SmD.ring {R:Ring} (h1:R.n≤99) (h2:R.asks.length≤99):SmD 5 (aR R):=⟨by have:=depD_ring R; omega,widD_ring h1 h2⟩
theorem SmD.frs {qs:List Rat} (h:qs.length≤99):SmD 3 (.lst (qs.map frD)):=⟨by have:=depD_frs qs; omega,widD_frs h (by decide)⟩
theorem SmD.asks {as:List Ask} (h:as.length≤99):SmD 4 (.lst (as.map askD)):=⟨by have:=depD_asks as; omega,widD_asks h (by decide)⟩
end My
set_option exponentiation.threshold 5000
namespace My
open PySem L2
def optW:Option Bool→D
 | none=>.non
 | some w=>.str (wayS w)
structure Wish where
 top:Rat
 strict:Bool
 elder:List (Option Bool)
 most:Nat
def elD (el:List (Option Bool)):D:=.lst (el.map optW)
def aQ (ws:List Bool):D:=.lst (ws.map fun w=>D.str (wayS w))
theorem waysD_el (ws:List Bool):aQ ws=elD (ws.map some):=by
 unfold aQ elD
 rw [List.map_map]
 rfl
def cf (w:Wish):D:=.tup [frD w.top,.bl w.strict,elD w.elder,.int (w.most:Int)]
def bE (x:Option Bool×Option Bool):Bool:=match x.1 with
 | none=>false
 | some a=>x.2 == some (!a)
def cx (el ws:List (Option Bool)):List Nat:=((el.zip ws).zipIdx.filter fun x=>bE x.1).map (·.2)
theorem optW_shape (o:Option Bool):bf (optW o):=by
 cases o with
 | none=>exact shapeD_non
 | some w=>exact shape_way w
theorem way_inj {a b:Bool}:wayS a=wayS b↔a=b:=by
 cases a <;> cases b <;> simp [wayS] <;> decide
theorem eqD_opt (o:Option Bool) (b:Bool):eqD (optW o) (.str (wayS b))=(o == some b):=by
 cases o with
 | none=>rfl
 | some a =>
  show eqD (.str (wayS a)) (.str (wayS b))=_
  rw [eqD_str]
  cases a <;> cases b <;> rfl
def dc (st:Bool) (load bound:Int):Bool:=decide (bound < load) || (st && decide (load=bound))
def muchQ (w:Wish) (x:Rat):Bool:=decide (w.top < x) || (w.strict && decide (x=w.top))
theorem much_eq (w:Wish) (x:Rat):dc w.strict (x.num*(w.top.den:Int)) (w.top.num*(x.den:Int))=muchQ w x:=by
 unfold dc muchQ
 have e1:decide (w.top.num*(x.den:Int) < x.num*(w.top.den:Int))=decide (w.top < x):=lt_eq _ _
 have e2:decide (x.num*(w.top.den:Int)=w.top.num*(x.den:Int))=decide (x=w.top):=by
  rw [decide_eq_decide,Rat.eq_iff_mul_eq_mul]
 rw [e1,e2]
def ez (R:Ring) (w:Wish) (ws:List Bool) (str:Nat→Rat):D :=
 match firstB (fun t=>muchQ w (str t)) R.n with
 | some t=>pairI "load" t
 | none=>if w.most < (cx w.elder (ws.map some)).length then pairI "turned" (cx w.elder (ws.map some)).length else .non
def wprt (as:List Ask) (ws:List Bool):List Rat:=(as.zip ws).map fun x=>if x.2 then x.1.size else 0
theorem intL_ix {n:Nat} {f:Nat→Int} {t:Nat} (h:t < n):ixN (intL n f).length (t:Int)=some t:=by
 rw [intL_len]
 unfold ixN
 rw [if_pos (by omega),if_pos (by omega),Int.toNat_natCast]
end My
set_option exponentiation.threshold 5000
namespace My
open PySem L2
def sumN:Nat→(Nat→Int)→Int
 | 0,_=>0
 | n+1,f=>sumN n f+f n
theorem sumN_congr {n:Nat} {f g:Nat→Int} (h:∀ i,i < n→f i=g i):sumN n f=sumN n g:=by
 induction n with
 | zero=>rfl
 | succ n ih=>rw [sumN,sumN,ih fun i hi=>h i (by omega),h n (by omega)]
theorem sumN_le {n:Nat} {f g:Nat→Int} (h:∀ i,i < n→f i≤g i):sumN n f≤sumN n g:=by
 induction n with
 | zero=>exact Int.le_refl _
 | succ n ih =>
  have h1:=ih fun i hi=>h i (by omega)
  have h2:=h n (by omega)
  rw [sumN,sumN]; omega
theorem sumN_add (n:Nat) (f g:Nat→Int):sumN n (fun i=>f i+g i)=sumN n f+sumN n g:=by
 induction n with
 | zero=>rfl
 | succ n ih=>rw [sumN,sumN,sumN,ih]; omega
theorem sumN_part {n k:Nat} (h:k≤n) (f:Nat→Int):sumN n f=sumN k f+sumN n fun i=>if i < k then 0 else f i:=by
 induction n with
 | zero =>
  have:k=0:=by omega
  subst this
  rfl
 | succ n ih =>
  rcases Nat.lt_or_ge n k with g | g
  ·
   have:k=n+1:=by omega
   subst this
   have e:sumN (n+1) (fun i=>if i < n+1 then 0 else f i)=sumN (n+1) fun _=>0:=sumN_congr fun i hi=>if_pos hi
   have z:∀ m,sumN m (fun _=>(0:Int))=0:=fun m=>by induction m with
    | zero=>rfl
    | succ m ihm=>rw [sumN,ihm]; rfl
   rw [e,z]; omega
  ·
   rw [sumN,ih g,sumN,if_neg (by omega)]; omega
def ldZ (R:Ring) (q:Rat) (ws:List Bool) (t:Nat):Int:=sumN ws.length fun i=>if onA R i t == ws.getD i false then wI R q i else 0
theorem ld_app (R:Ring) (q:Rat) (ws:List Bool) (b:Bool) (t:Nat):ldZ R q (ws++[b]) t=ldZ R q ws t+if onA R ws.length t == b then wI R q ws.length else 0:=by
 unfold ldZ
 rw [List.length_append,List.length_singleton,sumN]
 congr 1
 ·
  refine sumN_congr fun i hi=>?_
  rw [List.getD_eq_getElem?_getD,List.getD_eq_getElem?_getD,List.getElem?_append_left hi]
 ·
  simp
theorem ld_load {R:Ring} {q:Rat} {ws:List Bool} (hw:ws.length=R.asks.length) (t:Nat):((ldZ R q ws t:Int):Rat)=e8 R.n R.asks (wprt R.asks ws) t*(aP R q:Rat):=by
 have hp:(wprt R.asks ws).length=R.asks.length:=by simp [wprt,hw]
 have key:∀ k,k≤R.asks.length→((sumN k (fun i=>if onA R i t == ws.getD i false then wI R q i else 0):Int):Rat)=e8 R.n (R.asks.take k) ((wprt R.asks ws).take k) t*(aP R q:Rat):=by
  intro k
  induction k with
  | zero=>intro _; simp [sumN,e8,sumQ_nil]
  | succ k ih =>
   intro hk
   have h1:k < R.asks.length:=by omega
   have h2:k < (wprt R.asks ws).length:=by omega
   rw [loadQ_succ h1 h2,sumN,Rat.intCast_add,ih (by omega),Rat.add_mul]
   congr 1
   have e1:(wprt R.asks ws)[k]=if ws[k]'(by omega) then R.asks[k].size else 0:=by simp [wprt]
   have e2:ws.getD k false=ws[k]'(by omega):=by rw [List.getD_eq_getElem?_getD,List.getElem?_eq_getElem (by omega)]; rfl
   have wc:=w_cast (R:=R) (q:=q) h1
   rw [db h1] at wc
   unfold sent onA
   rw [e1,e2,db h1]
   cases isOn R.n R.asks[k] t <;> cases ws[k]'(by omega) <;> simp [wc] <;> grind
 have:=key R.asks.length (Nat.le_refl _)
 rw [List.take_of_length_le (Nat.le_refl _),List.take_of_length_le (by omega)] at this
 unfold ldZ
 rw [hw]
 exact this
theorem much_units {R:Ring} (hR:R.Ok) {w:Wish} {ws:List Bool} (hw:ws.length=R.asks.length) {t:Nat} (ht:t < R.n):dc w.strict (ldZ R w.top ws t) (f0I R w.top t)=muchQ w (aF R (wprt R.asks ws) t):=by
 obtain ⟨r1,r2⟩:=room_ok hR ht
 have u0:0 < aP R w.top:=by have:=cb_pos R w.top; unfold aP; omega
 have uq:(0:Rat) < (aP R w.top:Rat):=Rat.natCast_pos.mpr u0
 have e1:=ld_load (q:=w.top) hw t
 have e2:=f_cast (q:=w.top) ht
 unfold dc muchQ aF
 have i1:f0I R w.top t < ldZ R w.top ws t↔w.top < e8 R.n R.asks (wprt R.asks ws) t / R.room t:=by
  rw [← Rat.intCast_lt_intCast,e1,e2,Rat.lt_div_iff r1]
  exact ⟨fun h=>(Rat.mul_lt_mul_right uq).mp h,fun h=>(Rat.mul_lt_mul_right uq).mpr h⟩
 have i2:ldZ R w.top ws t=f0I R w.top t↔e8 R.n R.asks (wprt R.asks ws) t / R.room t=w.top:=by
  rw [← Rat.intCast_inj,e1,e2]
  have r0:R.room t≠0:=by grind
  have un:(aP R w.top:Rat)≠0:=by grind
  constructor
  ·
   intro h
   have:e8 R.n R.asks (wprt R.asks ws) t=w.top*R.room t:=by grind
   rw [this,Rat.mul_div_cancel r0]
  ·
   intro h
   have:e8 R.n R.asks (wprt R.asks ws) t=w.top*R.room t:=by rw [← h,Rat.div_mul_cancel r0]
   rw [this]
 rw [decide_eq_decide.mpr i1,decide_eq_decide.mpr i2]
inductive Tr where
 | turned
 | cut (c:Nat×Nat)
 | split (k:Nat) (a b:Tr)
def trD:Tr→D
 | .turned=>.tup [.str "turned"]
 | .cut c=>.tup [.str "cut",.int (c.1:Int),.int (c.2:Int)]
 | .split k a b=>.tup [.str "split",.int (k:Int),trD a,trD b]
def tov (R:Ring) (fixed:List (Option Bool)) (c:Nat×Nat) (i:Nat):Int:=match fixed.getD i none with
 | none=>if apart c (br R i).one (br R i).other then 1 else 0
 | some b=>(if onA R i c.1 == b then 1 else 0)+if onA R i c.2 == b then 1 else 0
def fullZ (R:Ring) (q:Rat) (fixed:List (Option Bool)) (c:Nat×Nat):Int:=sumN R.asks.length fun i=>wI R q i*tov R fixed c i
def Tr.Ok (R:Ring) (w:Wish):List (Option Bool)→Tr→Prop
 | fixed,.turned=>w.most < (cx w.elder fixed).length
 | fixed,.cut c=>IsCut R.n c∧dc w.strict (fullZ R w.top fixed c) (f0I R w.top c.1+f0I R w.top c.2)=true
 | fixed,.split k a b=>k < fixed.length∧fixed.getD k none=none∧Tr.Ok R w (fixed.set k (some true)) a∧Tr.Ok R w (fixed.set k (some false)) b
def dW (R:Ring) (w:Wish) (ws:List Bool):Prop:=(∀ t,t < R.n→muchQ w (aF R (wprt R.asks ws) t)=false)∧(cx w.elder (ws.map some)).length≤w.most
def Comp (fixed:List (Option Bool)) (ws:List Bool):Prop:=ws.length=fixed.length∧∀ i b,fixed.getD i none=some b→ws.getD i false=b
theorem turn_mono {el fixed:List (Option Bool)} {ws:List Bool} (h:Comp fixed ws):(cx el fixed).length≤(cx el (ws.map some)).length:=by
 unfold cx
 rw [List.length_map,List.length_map]
 obtain ⟨hl,hc⟩:=h
 have:∀ (n:Nat) (el fixed:List (Option Bool)) (ws:List Bool),ws.length=fixed.length→(∀ i b,fixed.getD i none=some b→ws.getD i false=b)→((el.zip fixed).zipIdx n |>.filter fun x=>bE x.1).length≤((el.zip (ws.map some)).zipIdx n |>.filter fun x=>bE x.1).length:=by
  intro n el
  induction el generalizing n with
  | nil=>intro fixed ws _ _; simp
  | cons e el ih =>
   intro fixed ws hl hc
   match fixed,ws,hl with
   | [],[],_=>simp
   | f::fixed,b::ws,hl =>
    have i1:=ih (n+1) fixed ws (by simpa using hl) fun i b' hb=>by
     have:=hc (i+1) b' (by simpa using hb)
     simpa using this
    rw [List.map_cons,List.zip_cons_cons,List.zip_cons_cons,List.zipIdx_cons,List.zipIdx_cons,List.filter_cons,List.filter_cons]
    have imp:bE (e,f)=true→bE (e,some b)=true:=fun h=>by
     cases f with
     | none=>cases e <;> simp [bE] at h
     | some g =>
      have:=hc 0 g rfl
      have:b=g:=by simpa using this
      subst this
      exact h
    cases h1:bE (e,f) <;> cases h2:bE (e,some b)
    ·
     simpa [h1,h2] using i1
    ·
     simp [h1,h2]; omega
    ·
     rw [imp h1] at h2; cases h2
    ·
     simpa [h1,h2] using i1
 exact this 0 el fixed ws hl hc
theorem full_le {R:Ring} (hR:R.Ok) {q:Rat} {fixed:List (Option Bool)} {ws:List Bool} (hf:fixed.length=R.asks.length) (h:Comp fixed ws) {c:Nat×Nat} (hc:IsCut R.n c):fullZ R q fixed c≤ldZ R q ws c.1+ldZ R q ws c.2:=by
 unfold ldZ fullZ
 rw [h.1,hf,← sumN_add]
 refine sumN_le fun i hi=>?_
 have ha:=fG hR hi
 have hz:=w_nonneg hR q i hi
 have ap:=apart_iff ha hc
 unfold tov
 cases e:fixed.getD i none with
 | none =>
  dsimp only
  rw [ap]
  unfold onA
  cases isOn R.n (br R i) c.1 <;> cases isOn R.n (br R i) c.2 <;> cases ws.getD i false <;> simp <;> omega
 | some b =>
  dsimp only
  rw [h.2 i b e]
  unfold onA
  cases isOn R.n (br R i) c.1 <;> cases isOn R.n (br R i) c.2 <;> cases b <;> simp <;> omega
theorem comp_set {fixed:List (Option Bool)} {ws:List Bool} (h:Comp fixed ws) {k:Nat} (hk:k < fixed.length):Comp (fixed.set k (some (ws.getD k false))) ws:=by
 refine ⟨by simpa using h.1,fun i b e=>?_⟩
 rw [List.getD_eq_getElem?_getD,List.getElem?_set] at e
 split at e
 ·
  rename_i hki
  subst hki
  simp [hk] at e
  rw [← e,List.getD_eq_getElem?_getD]
 ·
  exact h.2 i b (by rw [List.getD_eq_getElem?_getD]; exact e)
theorem much_two {st:Bool} {x y a b:Int} (h:dc st (x+y) (a+b)=true) (h1:dc st x a=false) (h2:dc st y b=false):False:=by
 unfold dc at h h1 h2
 simp only [Bool.or_eq_false_iff,Bool.or_eq_true,decide_eq_false_iff_not,decide_eq_true_eq,Bool.and_eq_true,Bool.and_eq_false_iff] at h h1 h2
 cases st
 ·
  simp at h h1 h2; omega
 ·
  simp at h h1 h2; omega
theorem much_le {st:Bool} {x y a:Int} (h:dc st x a=true) (hl:x≤y):dc st y a=true:=by
 unfold dc at h ⊢
 simp only [Bool.or_eq_true,decide_eq_true_eq,Bool.and_eq_true] at h ⊢
 rcases h with h | ⟨h1,h2⟩
 ·
  left; omega
 ·
  by_cases e:a < y
  ·
   exact .inl e
  ·
   exact .inr ⟨h1,by omega⟩
theorem tree_bars {R:Ring} (hR:R.Ok) {w:Wish}:∀ (T:Tr) (fixed:List (Option Bool)) (ws:List Bool),fixed.length=R.asks.length→T.Ok R w fixed→Comp fixed ws→¬ dW R w ws
 | .turned,fixed,ws,hf,ht,hc,hk=>by
  have:=turn_mono (el:=w.elder) hc
  have h1:w.most < (cx w.elder fixed).length:=ht
  have:=hk.2
  omega
 | .cut c,fixed,ws,hf,ht,hc,hk=>by
  obtain ⟨ic,hm⟩:=ht
  have hw:ws.length=R.asks.length:=by rw [hc.1,hf]
  have h1:=hk.1 c.1 (by have:=ic.1; have:=ic.2; omega)
  have h2:=hk.1 c.2 ic.2
  rw [← much_units hR hw (by have:=ic.1; have:=ic.2; omega)] at h1
  rw [← much_units hR hw ic.2] at h2
  exact much_two (much_le hm (full_le hR hf hc ic)) h1 h2
 | .split k a b,fixed,ws,hf,ht,hc,hk=>by
  obtain ⟨h1,h2,h3,h4⟩:=ht
  have cs:=comp_set hc h1
  cases e:ws.getD k false
  ·
   rw [e] at cs
   exact tree_bars hR b _ ws (by simpa using hf) h4 cs hk
  ·
   rw [e] at cs
   exact tree_bars hR a _ ws (by simpa using hf) h3 cs hk
end My
set_option exponentiation.threshold 5000
namespace My
open PySem L2
def Tr.kind:Tr→Nat
 | .turned=>0
 | .cut _=>1
 | .split _ _ _=>2
def Tr.size:Tr→Nat
 | .turned=>1
 | .cut _=>1
 | .split _ a b=>a.size+b.size+1
theorem Tr.size_pos (T:Tr):0 < T.size:=by cases T <;> simp [Tr.size]
def prefO (n:Nat) (ws:List Bool):List (Option Bool):=ws.map some++List.replicate (n - ws.length) none
theorem pref_len {n:Nat} {ws:List Bool} (h:ws.length≤n):(prefO n ws).length=n:=by simp [prefO]; omega
theorem pref_at {n:Nat} {ws:List Bool} {i:Nat}:(prefO n ws).getD i none=if h:i < ws.length then some ws[i] else none:=by
 unfold prefO
 rw [List.getD_eq_getElem?_getD]
 split
 ·
  rename_i h
  rw [List.getElem?_append_left (by simpa using h),List.getElem?_map,List.getElem?_eq_getElem h]
  rfl
 ·
  rename_i h
  rw [List.getElem?_append_right (by simp; omega),List.getElem?_replicate]
  split <;> rfl
theorem pref_set {n:Nat} {ws:List Bool} (h:ws.length < n) (b:Bool):(prefO n ws).set ws.length (some b)=prefO n (ws++[b]):=by
 unfold prefO
 rw [List.set_append_right _ _ (by simp),List.length_map,Nat.sub_self,List.map_append,List.append_assoc]
 congr 1
 obtain ⟨m,hm⟩:∃ m,n - ws.length=m+1:=⟨n - ws.length - 1,by omega⟩
 rw [hm,List.replicate_succ,List.set_cons_zero,List.length_append,List.length_singleton,show n - (ws.length+1)=m by omega]
 rfl
theorem turn_pref (el:List (Option Bool)) (n:Nat) (ws:List Bool):(cx el (prefO n ws)).length=(cx el (ws.map some)).length:=by
 unfold cx prefO
 rw [List.length_map,List.length_map]
 generalize n - ws.length=m
 clear n
 have:∀ (j:Nat) (el:List (Option Bool)) (ws:List Bool),((el.zip (ws.map some++List.replicate m none)).zipIdx j |>.filter fun x=>bE x.1).length=((el.zip (ws.map some)).zipIdx j |>.filter fun x=>bE x.1).length:=by
  intro j el
  induction el generalizing j with
  | nil=>intro ws; simp
  | cons e el ih =>
   intro ws
   cases ws with
   | nil =>
    rw [List.map_nil,List.nil_append,List.zip_nil_right]
    have z:∀ (j m:Nat) (el:List (Option Bool)),((el.zip (List.replicate m none)).zipIdx j |>.filter fun x=>bE x.1)=[]:=by
     intro j m el
     refine List.filter_eq_nil_iff.mpr fun x hx=>?_
     have h1:=(List.mem_zipIdx hx).2.2
     have h2:x.1∈el.zip (List.replicate m none):=by rw [h1]; exact List.getElem_mem _
     obtain ⟨_,h3⟩:=List.of_mem_zip (a:=x.1.1) (b:=x.1.2) h2
     have h4:=List.eq_of_mem_replicate h3
     unfold bE
     rw [h4]
     cases x.1.1 <;> simp
    rw [z]
    rfl
   | cons b ws =>
    rw [List.map_cons,List.cons_append,List.zip_cons_cons,List.zip_cons_cons,List.zipIdx_cons,List.zipIdx_cons,List.filter_cons,List.filter_cons]
    have i1:=ih (j+1) ws
    cases bE (e,some b)
    ·
     simpa using i1
    ·
     simpa using i1
 exact this 0 el ws
def gA (R:Ring) (q:Rat) (c:Nat×Nat) (i:Nat):Int:=if apart c (br R i).one (br R i).other then wI R q i else 0
def bndZ (R:Ring) (q:Rat) (k:Nat) (c:Nat×Nat):Int:=f0I R q c.1+f0I R q c.2 - (sumN R.asks.length (gA R q c) - sumN k (gA R q c))
theorem bnd_step {R:Ring} {q:Rat} {k:Nat} (c:Nat×Nat):bndZ R q (k+1) c - gA R q c k=bndZ R q k c:=by
 unfold bndZ
 rw [sumN]
 omega
theorem full_pref {R:Ring} {q:Rat} {ws:List Bool} (hw:ws.length≤R.asks.length) (c:Nat×Nat):fullZ R q (prefO R.asks.length ws) c=ldZ R q ws c.1+ldZ R q ws c.2+(sumN R.asks.length (gA R q c) - sumN ws.length (gA R q c)):=by
 unfold fullZ ldZ
 rw [sumN_part hw,← sumN_add]
 have e1:sumN ws.length (fun i=>wI R q i*tov R (prefO R.asks.length ws) c i)=sumN ws.length fun i=>(if onA R i c.1 == ws.getD i false then wI R q i else 0)+if onA R i c.2 == ws.getD i false then wI R q i else 0:=sumN_congr fun i hi=>by
  have e2:ws.getD i false=ws[i]:=by rw [List.getD_eq_getElem?_getD,List.getElem?_eq_getElem hi]; rfl
  unfold tov
  rw [pref_at,dif_pos hi,e2]
  dsimp only
  cases onA R i c.1 <;> cases onA R i c.2 <;> cases ws[i] <;> simp <;> omega
 have e3:=sumN_part hw (gA R q c)
 have e4:sumN R.asks.length (fun i=>if i < ws.length then 0 else wI R q i*tov R (prefO R.asks.length ws) c i)=sumN R.asks.length fun i=>if i < ws.length then 0 else gA R q c i:=sumN_congr fun i hi=>by
  by_cases h:i < ws.length
  ·
   rw [if_pos h,if_pos h]
  ·
   rw [if_neg h,if_neg h]
   unfold tov gA
   rw [pref_at,dif_neg h]
   dsimp only
   split <;> simp
 rw [e1,e4]
 omega
theorem much_shift (st:Bool) (x y d:Int):dc st x (y - d)=dc st (x+d) y:=by
 unfold dc
 have e1:decide (y - d < x)=decide (y < x+d):=by rw [decide_eq_decide]; omega
 have e2:decide (x=y - d)=decide (x+d=y):=by rw [decide_eq_decide]; omega
 rw [e1,e2]
theorem much_pref {R:Ring} {w:Wish} {ws:List Bool} (hw:ws.length≤R.asks.length) (c:Nat×Nat):dc w.strict (ldZ R w.top ws c.1+ldZ R w.top ws c.2) (bndZ R w.top ws.length c)=dc w.strict (fullZ R w.top (prefO R.asks.length ws) c) (f0I R w.top c.1+f0I R w.top c.2):=by
 rw [full_pref hw]
 unfold bndZ
 exact much_shift _ _ _ _
def rowD (R:Ring) (q:Rat) (k:Nat):D:=.lst ((cutsL R.n).map fun c=>D.tup [cutP c,.int (bndZ R q k c)])
def rowsL (R:Ring) (q:Rat):List D:=(List.range (R.asks.length+1)).map fun j=>rowD R q (R.asks.length - j)
def FreeW (R:Ring) (w:Wish) (ws:List Bool):Prop:=(∀ c,IsCut R.n c→dc w.strict (ldZ R w.top ws c.1+ldZ R w.top ws c.2) (bndZ R w.top ws.length c)=false)∧(cx w.elder (ws.map some)).length≤w.most
theorem free_keeps {R:Ring} (hR:R.Ok) {w:Wish} {ws:List Bool} (hw:ws.length=R.asks.length) (h:FreeW R w ws):dW R w ws:=by
 refine ⟨fun t ht=>?_,h.2⟩
 rw [← much_units hR hw ht]
 have h1:=h.1 (t,t) ⟨Nat.le_refl _,ht⟩
 unfold bndZ at h1
 rw [hw,Int.sub_self,Int.sub_zero] at h1
 unfold dc at h1 ⊢
 simp only [Bool.or_eq_false_iff,decide_eq_false_iff_not,Bool.and_eq_false_iff] at h1 ⊢
 refine ⟨by omega,?_⟩
 rcases h1.2 with h2 | h2
 ·
  exact .inl h2
 ·
  exact .inr (by omega)
theorem cuts_len {n:Nat} (h:n≤12):(cutsL n).length≤144:=by
 unfold cutsL
 rw [List.length_flatMap]
 have:∀ (l:List Nat),(l.map fun g=>((List.range (n - g)).map fun i=>(g,g+i)).length).sum≤l.length*12:=by
  intro l
  induction l with
  | nil=>simp
  | cons a l ih =>
   rw [List.map_cons,List.sum_cons,List.length_cons,Nat.succ_mul]
   simp only [List.length_map,List.length_range] at ih ⊢
   omega
 have h1:=this (List.range n)
 rw [List.length_range] at h1
 omega
end My
set_option exponentiation.threshold 5000
namespace My
open PySem L2
abbrev strW (R:Ring) (ws:List Bool):Nat→Rat:=aF R (wprt R.asks ws)
def topW (R:Ring) (ws:List Bool):Rat:=strW R ws (topI R.n (strW R ws))
theorem topW_ge {R:Ring} (hR:R.Ok) (ws:List Bool) {t:Nat} (ht:t < R.n):strW R ws t≤topW R ws:=(topI_ok (by have:=hR.lo; omega) (strW R ws)).2 t ht
theorem topW_at {R:Ring} (hR:R.Ok) (ws:List Bool):topI R.n (strW R ws) < R.n:=(topI_ok (by have:=hR.lo; omega) (strW R ws)).1
theorem much_strict {w:Wish} (h:w.strict=true) {x:Rat}:muchQ w x=false↔x < w.top:=by
 unfold muchQ
 rw [h]
 simp only [Bool.true_and,Bool.or_eq_false_iff,decide_eq_false_iff_not]
 constructor <;> intro g
 ·
  grind
 ·
  constructor <;> grind
theorem keeps_less {R:Ring} (hR:R.Ok) {w:Wish} (h:w.strict=true) {ws:List Bool} (hk:dW R w ws):topW R ws < w.top:=(much_strict h).mp (hk.1 _ (topW_at hR ws))
theorem less_keeps {R:Ring} (hR:R.Ok) {w:Wish} (h:w.strict=true) {ws:List Bool} (hk:topW R ws < w.top) (hm:(cx w.elder (ws.map some)).length≤w.most):dW R w ws :=
 ⟨fun t ht=>(much_strict h).mpr (by have h1:=topW_ge hR ws ht; have e:strW R ws t=aF R (wprt R.asks ws) t:=rfl; rw [e] at h1; grind),hm⟩
def allW:Nat→List (List Bool)
 | 0=>[[]]
 | n+1=>(allW n).map (·++[true])++(allW n).map (·++[false])
theorem allW_len (n:Nat):(allW n).length=2 ^ n:=by
 induction n with
 | zero=>rfl
 | succ n ih=>rw [allW,List.length_append,List.length_map,List.length_map,ih,Nat.pow_succ]; omega
theorem mem_allW {n:Nat} {ws:List Bool}:ws∈allW n↔ws.length=n:=by
 induction n generalizing ws with
 | zero=>simp [allW]
 | succ n ih =>
  rw [allW,List.mem_append,List.mem_map,List.mem_map]
  constructor
  ·
   rintro (⟨v,hv,rfl⟩ | ⟨v,hv,rfl⟩) <;> simp [ih.mp hv]
  ·
   intro h
   have hn:ws≠[]:=fun z=>by rw [z] at h; simp at h
   have e:=List.dropLast_concat_getLast hn
   have hd:ws.dropLast∈allW n:=ih.mpr (by rw [List.length_dropLast,h]; rfl)
   cases eb:ws.getLast hn
   ·
    exact .inr ⟨_,hd,by rw [eb] at e; exact e⟩
   ·
    exact .inl ⟨_,hd,by rw [eb] at e; exact e⟩
end My
set_option exponentiation.threshold 5000
namespace My
open PySem L2
def S61 (R:Ring):Prop:=∀ a∈R.asks,RB 61 a.size
theorem wpr_at {as:List Ask} {ws:List Bool} {x:Ask×Rat} (h:x∈as.zip (wprt as ws)):x.1∈as∧(x.2=x.1.size∨x.2=0):=by
 obtain ⟨k,hk,rfl⟩:=List.mem_iff_getElem.mp h
 have h1:k < as.length:=by simp at hk; omega
 refine ⟨by simp,?_⟩
 simp only [List.getElem_zip,wprt,List.getElem_map]
 split
 ·
  exact .inl rfl
 ·
  exact .inr rfl
theorem sentW_RB {n:Nat} {x:Ask×Rat} {b:Nat} (hs:RB b x.1.size) (hx:x.2=x.1.size∨x.2=0) (hb:1≤b) (t:Nat):RB b (sent n x.1 x.2 t):=by
 have z:RB b (0:Rat):=RB.zero.mono hb
 unfold sent
 rcases hx with h | h <;> rw [h] <;> split
 ·
  exact hs
 ·
  rw [Rat.sub_self]; exact z
 ·
  exact z
 ·
  rw [show x.1.size - 0=x.1.size by grind]; exact hs
theorem wpr_take (as:List Ask) (ws:List Bool) (k:Nat):(wprt as ws).take k=wprt (as.take k) (ws.take k):=by
 unfold wprt
 rw [← List.map_take,List.zip,List.take_zipWith]
theorem loadW_RB {n:Nat} {as:List Ask} (ha:∀ a∈as,RB 61 a.size) (hl:as.length≤20) (ws:List Bool) (t:Nat):RB 1241 (e8 n as (wprt as ws) t):=by
 refine (RB.sum (b:=61) _ fun q hq=>?_).mono ?_
 ·
  obtain ⟨x,hx,rfl⟩:=List.mem_map.mp hq
  obtain ⟨h1,h2⟩:=wpr_at hx
  exact sentW_RB (ha _ h1) h2 (by decide) t
 ·
  rw [List.length_map,List.length_zip]
  have:min as.length (wprt as ws).length≤20:=by omega
  omega
theorem LB.ways {R:Ring} (hR:R.Ok) (hT:S61 R) (ws:List Bool):LB R (wprt R.asks ws):=by
 have few:=hR.few
 refine ⟨fun p hp=>?_,fun k t=>?_,fun k h1 h2 t=>?_,fun t=>.inl ?_⟩
 ·
  obtain ⟨x,hx,rfl⟩:=List.mem_map.mp hp
  obtain ⟨h1,_⟩:=List.of_mem_zip (a:=x.1) (b:=x.2) hx
  split
  ·
   exact (hT _ h1).mono (by decide)
  ·
   exact RB.zero.mono (by decide)
 ·
  rw [wpr_take]
  exact (loadW_RB (fun a ha=>hT a (List.mem_of_mem_take ha)) (by rw [List.length_take]; omega) _ t).mono (by decide)
 ·
  have hm:(R.asks[k],(wprt R.asks ws)[k])∈R.asks.zip (wprt R.asks ws):=List.mem_iff_getElem.mpr ⟨k,by rw [List.length_zip]; omega,by rw [List.getElem_zip]⟩
  obtain ⟨g1,g2⟩:=wpr_at hm
  exact (sentW_RB (x:=(R.asks[k],(wprt R.asks ws)[k])) (hT _ g1) g2 (by decide) t).mono (by decide)
 ·
  refine Nat.lt_of_le_of_lt (denP_le (b:=61) _ fun q hq=>?_) (Nat.pow_lt_pow_right (by decide) ?_)
  ·
   obtain ⟨x,hx,rfl⟩:=List.mem_map.mp hq
   obtain ⟨h1,h2⟩:=wpr_at hx
   exact sentW_RB (hT _ h1) h2 (by decide) t
  ·
   rw [List.length_map,List.length_zip]
   have:min R.asks.length (wprt R.asks ws).length≤20:=by omega
   omega
theorem topB_rb {R:Ring} (hR:R.Ok) (hT:S61 R) (ws:List Bool):RB 1301 (topW R ws):=by
 have ht:=topW_at hR ws
 obtain ⟨r1,r2⟩:=room_ok hR ht
 unfold topW strW aF
 exact ((loadW_RB hT hR.few ws _).div r2 (by grind)).mono (by decide)
theorem wprt_len {as:List Ask} {ws:List Bool} (h:ws.length=as.length):(wprt as ws).length=as.length:=by simp [wprt,h]
theorem filter_lt {α:Type} {p q:α→Bool}:∀ {l:List α},(∀ a,p a=true→q a=true)→(∃ a∈l,q a=true∧p a=false)→(l.filter p).length < (l.filter q).length
 | [],_,h=>by obtain ⟨a,ha,_⟩:=h; cases ha
 | x::l,hpq,h=>by
  have le:(l.filter p).length≤(l.filter q).length:=by
   clear h
   induction l with
   | nil=>simp
   | cons y l ih =>
    rw [List.filter_cons,List.filter_cons]
    cases ep:p y
    ·
     cases q y
     ·
      simpa using ih
     ·
      simp; omega
    ·
     rw [hpq y ep]
     simpa using ih
  rw [List.filter_cons,List.filter_cons]
  cases ep:p x
  ·
   cases eq:q x
   ·
    have:=filter_lt (l:=l) hpq (by
     obtain ⟨a,ha,h1,h2⟩:=h
     rcases List.mem_cons.mp ha with rfl | ha
     ·
      rw [eq] at h1; cases h1
     ·
      exact ⟨a,ha,h1,h2⟩)
    simpa using this
   ·
    simp; omega
  ·
   rw [hpq x ep]
   have:=filter_lt (l:=l) hpq (by
     obtain ⟨a,ha,h1,h2⟩:=h
     rcases List.mem_cons.mp ha with rfl | ha
     ·
      rw [ep] at h2; cases h2
     ·
      exact ⟨a,ha,h1,h2⟩)
   simpa using this
def lessN (R:Ring) (ws:List Bool):Nat:=((allW R.asks.length).filter fun vs=>decide (topW R vs < topW R ws)).length
theorem less_lt {R:Ring} {ws vs:List Bool} (hv:vs.length=R.asks.length) (h:topW R vs < topW R ws):lessN R vs < lessN R ws :=
 filter_lt (fun us h1=>by have:=of_decide_eq_true h1; exact decide_eq_true (by grind)) ⟨vs,mem_allW.mpr hv,decide_eq_true h,decide_eq_false (by grind)⟩
theorem turn_none (n:Nat) (ws:List (Option Bool)):(cx (List.replicate n none) ws).length=0:=by
 unfold cx
 rw [List.length_map,List.length_eq_zero_iff]
 refine List.filter_eq_nil_iff.mpr fun x hx=>?_
 have h1:=(List.mem_zipIdx hx).2.2
 have h2:x.1∈(List.replicate n none).zip ws:=by rw [h1]; exact List.getElem_mem _
 obtain ⟨h3,_⟩:=List.of_mem_zip (a:=x.1.1) (b:=x.1.2) h2
 have h4:=List.eq_of_mem_replicate h3
 unfold bE
 rw [h4]
 simp
def dX (R:Ring) (q:Rat):Wish:=⟨q,true,List.replicate R.asks.length none,0⟩
def BestW (R:Ring) (ws:List Bool):Prop:=ws.length=R.asks.length∧∀ vs:List Bool,vs.length=R.asks.length→topW R ws≤topW R vs
end My
set_option exponentiation.threshold 5000
namespace My
open PySem L2
def tagN:Nat→Str
 | 0=>"turned"
 | 1=>"cut"
 | _=>"split"
def lenN:Nat→Nat
 | 0=>1
 | 1=>3
 | _=>4
def tovO (R:Ring) (o:Option Bool) (c:Nat×Nat) (i:Nat):Int:=match o with
 | none=>if apart c (br R i).one (br R i).other then 1 else 0
 | some b=>(if onA R i c.1 == b then 1 else 0)+if onA R i c.2 == b then 1 else 0
theorem tov_eq (R:Ring) (fixed:List (Option Bool)) (c:Nat×Nat) (i:Nat):tov R fixed c i=tovO R (fixed.getD i none) c i:=rfl
theorem tovO_abs (R:Ring) (o:Option Bool) (c:Nat×Nat) (i:Nat):(tovO R o c i).natAbs < 2 ^ 60:=by
 unfold tovO
 split
 ·
  split <;> decide
 ·
  split <;> split <;> decide
theorem sum_range (n:Nat) (f:Nat→Int):((List.range n).map f).sum=sumN n f:=by
 induction n with
 | zero=>rfl
 | succ n ih=>rw [List.range_succ,List.map_append,List.sum_append,ih,sumN]; simp
theorem el_at {el:List (Option Bool)} {k:Nat} (h:k < el.length):atI (el.map optW) (k:Int)=some (optW (el.getD k none)):=by
 rw [et h]
 congr 2
 rw [List.getD_eq_getElem?_getD,List.getElem?_eq_getElem h]
 rfl
structure Wait where
 tr:Tr
 fixed:List (Option Bool)
 ways:List Bool
def waitD (x:Wait):D:=.tup [trD x.tr,elD x.fixed,aQ x.ways]
def waitN (xs:List Wait):Nat:=(xs.map fun x=>x.tr.size).sum
theorem enum_intL (n:Nat) (f:Nat→Int):enumD (intL n f)=(List.range n).map fun (t:Nat)=>D.tup [.int (t:Int),.int (f t)]:=by
 unfold enumD intL
 refine List.ext_getElem (by simp) fun j h1 h2=>?_
 simp
theorem eqDs_ways:∀ (as bs:List Bool),PyData.eqvAll (toPs (as.map fun w=>D.str (wayS w))) (toPs (bs.map fun w=>D.str (wayS w)))=decide (as=bs)
 | [],[]=>by simp [eqDs_nil]
 | [],b::bs=>by simp [toPs,PyData.eqvAll]
 | a::as,[]=>by simp [toPs,PyData.eqvAll]
 | a::as,b::bs=>by
  rw [List.map_cons,List.map_cons,eqDs_cons,eqDs_ways as bs,eqD_str]
  simp [way_inj]
theorem eqD_ways (as bs:List Bool):eqD (aQ as) (aQ bs)=decide (as=bs):=by
 unfold aQ
 rw [eqD_lst,eqDs_ways]
theorem ok_waysD (ws:List Bool):okD 1 (aQ ws)=true:=by
 unfold aQ
 simp only [okD]
 exact okDs_map ws fun w _=>by cases w <;> decide +kernel
theorem shape_ways (ws:List Bool):bf (aQ ws):=bj (ok_waysD ws) (by decide)
theorem depth_ways (ws:List Bool):(toP (aQ ws)).depth≤62:=Nat.le_trans (okD_lay 1 _ (ok_waysD ws)).2 (by decide)
theorem any_ways (x:List Bool) (l:List (List Bool)):anyEq (aQ x) (l.map aQ)=decide (x∈l):=by
 unfold anyEq
 induction l with
 | nil=>simp
 | cons y l ih =>
  rw [List.map_cons,List.any_cons,ih,eqD_ways,← Bool.decide_or,decide_eq_decide,List.mem_cons]
  exact ⟨fun h=>h.imp Eq.symm id,fun h=>h.imp Eq.symm id⟩
theorem all_shape (l:List (List Bool)):∀ z∈l.map aQ,bf z:=fun z hz=>by
 obtain ⟨x,_,rfl⟩:=List.mem_map.mp hz
 exact shape_ways x
end My
set_option exponentiation.threshold 1000
namespace Hd
open PySem PySem.W PyProof.Rows
abbrev pr:Program:=PySem.Challenge.pw_ringloads_k92_whole_all_ways_walked
def top (i:Nat):Stmt:=pr.main.body.getD i (.Pass ⟨0,0,0,0⟩)
def inCls (st:Stmt) (j:Nat):Stmt:=match st with
 | .ClassDef _ _ _ b ..=>b.getD j (.Pass ⟨0,0,0,0⟩)
 | _=>.Pass ⟨0,0,0,0⟩
def dName (s:Stmt):Str:=match s with
 | .FunctionDef n ..=>n
 | _=>""
def dArgs (s:Stmt):Arguments:=match s with
 | .FunctionDef _ a _ _ _ _ _ _ _ _=>a
 | _=>{ posonlyargs:=[],args:=[],vararg:=none,kwonlyargs:=[],kw_defaults:=[],kwarg:=none,defaults:=[] }
def dBody (s:Stmt):List Stmt:=match s with
 | .FunctionDef _ _ b _ _ _ _ _ _ _=>b
 | _=>[]
def dScope (s:Stmt):Scope:=match s with
 | .FunctionDef _ _ _ _ _ _ sc _ _ _=>sc
 | _=>{ kind:=.function,names:=[],isGenerator:=false,isCoroutine:=false }
def dPos (s:Stmt):Pos:=match s with
 | .FunctionDef _ _ _ _ _ _ _ _ _ p=>p
 | _=>⟨0,0,0,0⟩
def fdOf (st:Stmt) (q:Str) (g:Addr) (md cd:Value):FuncData:={ name:=dName st,qualname:=q,params:=dArgs st,body:=.stmts (dBody st),scope:=dScope st,globals:=g,closure:=[],defaults:=.none,kwdefaults:=.none,doc:=.none,pyModule:=md,annotations:=none,code:=cd,closureTuple:=.none,builtins:=0 }
noncomputable def kh (P:Params) (x:Str):Int:=PySem.PyData.keyHash P x
def tupO (vs:List Value):Obj:=⟨.type "tuple",none,.seq vs.toArray 0,#[]⟩
def fldO (vs:List Value):Obj:=⟨.none,none,.fields vs.toArray,#[]⟩
def numb:Nat→List Str→List Value
 | _,[]=>[]
 | t,x::r=>.str x t::numb (t+1) r
def codeO (st:Stmt) (a t:Nat) (v1 v2:Value) (tm u:Nat):Obj:=⟨.type "code",none,.fields #[.str (dName st) t,.str (dName st) (t+1),.str "/claim/cut.py" (t+2),.int (dPos st).line 0,.int (dArgs st).args.length 0,.int 0 0,.int 0 0,.int 3 0,.ref a,.bool true,.int 181 0,.ref (a+1),.none,v1,v2,.ref tm,.int u 0,.int (dPos st).line 0,.str "/claim/cut.py" (u+1)],#[]⟩
def fnO (st:Stmt) (md:Value) (cd:Nat):Obj:=⟨.type "function",none,.func (fdOf st (dName st) 3 md (.ref cd)),#[]⟩
def tmO (st:Stmt):Obj:=⟨.none,none,.func (fdOf st (dName st) 0 .none .none),#[]⟩
def a5 (st:Stmt) (a t:Nat) (vs:List Str) (md:Value):List Obj:=[tupO [],fldO [],tupO (numb (t+3) vs),tupO [],tmO st,codeO st a t (.ref (a+2)) (.ref (a+3)) (a+4) (t+3+vs.length),fnO st md (a+5)]
def dQ (st:Stmt) (a t:Nat) (md:Value):List Obj:=[tupO [],fldO [],tmO st,codeO st a t .none .none (a+2) (t+3),fnO st md (a+3)]
noncomputable def mainD (P:Params) (nm:Value) (es:List DictEntry) (n:Nat):Obj:=⟨.type "dict",none,.dict (([⟨kh P "__name__",.str "__name__" 165,nm⟩,⟨kh P "__doc__",.str "__doc__" 166,.none⟩,⟨kh P "__package__",.str "__package__" 167,.none⟩,⟨kh P "__loader__",.str "__loader__" 168,.builtin "__main__.__loader__#opaque"⟩,⟨kh P "__spec__",.str "__spec__" 169,.none⟩,⟨kh P "__annotations__",.str "__annotations__" 170,.ref 6⟩,⟨kh P "__builtins__",.str "__builtins__" 171,.ref 4⟩,⟨kh P "__file__",.str "__file__" 173,.str "/claim/cut.py" 172⟩,⟨kh P "__cached__",.str "__cached__" 174,.none⟩]:List DictEntry)++es).toArray n,#[]⟩
def modO:Obj:=⟨.type "code",none,.fields #[.str "<module>" 182,.str "<module>" 183,.str "/claim/cut.py" 184,.int 1 0,.int 0 0,.int 0 0,.int 0 0,.int 0 0,.ref 11,.bool false,.int 181 0,.ref 12,.none,.none,.none,.none,.int 185 0,.int 1 0,.str "/claim/cut.py" 186],#[]⟩
def frmO:Obj:=⟨.type "frame",none,.plain,#[some (.ref 13),some (.ref 3),some (.ref 3),none,some (.str "__main__" 164),none,some (.ref 0)]⟩
noncomputable def bootL (P:Params):List Obj:=[boot_o_0 P,boot_o_1 P,boot_o_2 P,boot_o_3 P,boot_o_4 P,boot_o_5 P,boot_o_6 P,boot_o_7 P,boot_o_8 P,boot_o_9 P,boot_o_10 P,tupO [],fldO [],modO,frmO]
def life0:Life:=⟨[],[],[],0,[],[],false,#[],[],0,false,false,false,0,[2000,10,10],false,0,true,[],[],0,false⟩
noncomputable def lookO (l:List (Nat×Obj)) (b:Nat):Option Obj:=@List.rec (Nat×Obj) (fun _=>Option Obj) none (fun x _ ih=>bif Nat.beq x.1 b then some x.2 else ih) l
noncomputable def obBase (P:Params) (ob:Params→Nat→Obj) (b:Nat):Obj:=bif b.blt 15 then (bootL P).getD b default else ob P b
noncomputable def memN (l:List Nat) (b:Nat):Bool:=@List.rec Nat (fun _=>Bool) false (fun x _ ih=>@Bool.rec (fun _=>Bool) ih true (Nat.beq x b)) l
noncomputable def obAt (ks:List Nat) (P:Params) (ov:List (Nat×Obj)) (ob:Params→Nat→Obj) (b j:Nat):Obj:=@Bool.rec (fun _=>Obj) (obBase P ob b) ((lookO ov b).getD default) (memN ks b)
noncomputable def L0 (n:Nat) (f:Nat→Obj) (a b j:Nat):BT:=.nil
noncomputable def L1 (n:Nat) (f:Nat→Obj) (a b j:Nat):BT:=@Bool.rec (fun _=>BT) .nil (.node (f b) (L0 n f (2*a) (a+b) j) (L0 n f (2*a) (2*a+b) j)) (b.blt n)
noncomputable def L2 (n:Nat) (f:Nat→Obj) (a b j:Nat):BT:=@Bool.rec (fun _=>BT) .nil (.node (f b) (L1 n f (2*a) (a+b) j) (L1 n f (2*a) (2*a+b) j)) (b.blt n)
noncomputable def L3 (n:Nat) (f:Nat→Obj) (a b j:Nat):BT:=@Bool.rec (fun _=>BT) .nil (.node (f b) (L2 n f (2*a) (a+b) j) (L2 n f (2*a) (2*a+b) j)) (b.blt n)
noncomputable def L4 (n:Nat) (f:Nat→Obj) (a b j:Nat):BT:=@Bool.rec (fun _=>BT) .nil (.node (f b) (L3 n f (2*a) (a+b) j) (L3 n f (2*a) (2*a+b) j)) (b.blt n)
noncomputable def L5 (n:Nat) (f:Nat→Obj) (a b j:Nat):BT:=@Bool.rec (fun _=>BT) .nil (.node (f b) (L4 n f (2*a) (a+b) j) (L4 n f (2*a) (2*a+b) j)) (b.blt n)
noncomputable def L6 (n:Nat) (f:Nat→Obj) (a b j:Nat):BT:=@Bool.rec (fun _=>BT) .nil (.node (f b) (L5 n f (2*a) (a+b) j) (L5 n f (2*a) (2*a+b) j)) (b.blt n)
noncomputable def L7 (n:Nat) (f:Nat→Obj) (a b j:Nat):BT:=@Bool.rec (fun _=>BT) .nil (.node (f b) (L6 n f (2*a) (a+b) j) (L6 n f (2*a) (2*a+b) j)) (b.blt n)
noncomputable def L8 (n:Nat) (f:Nat→Obj) (a b j:Nat):BT:=@Bool.rec (fun _=>BT) .nil (.node (f b) (L7 n f (2*a) (a+b) j) (L7 n f (2*a) (2*a+b) j)) (b.blt n)
noncomputable def L9 (n:Nat) (f:Nat→Obj) (a b j:Nat):BT:=@Bool.rec (fun _=>BT) .nil (.node (f b) (L8 n f (2*a) (a+b) j) (L8 n f (2*a) (2*a+b) j)) (b.blt n)
noncomputable def L10 (n:Nat) (f:Nat→Obj) (a b j:Nat):BT:=@Bool.rec (fun _=>BT) .nil (.node (f b) (L9 n f (2*a) (a+b) j) (L9 n f (2*a) (2*a+b) j)) (b.blt n)
noncomputable def L11 (n:Nat) (f:Nat→Obj) (a b j:Nat):BT:=@Bool.rec (fun _=>BT) .nil (.node (f b) (L10 n f (2*a) (a+b) j) (L10 n f (2*a) (2*a+b) j)) (b.blt n)
noncomputable def L12 (n:Nat) (f:Nat→Obj) (a b j:Nat):BT:=@Bool.rec (fun _=>BT) .nil (.node (f b) (L11 n f (2*a) (a+b) j) (L11 n f (2*a) (2*a+b) j)) (b.blt n)
theorem seg_by {p:Program} {w:World} {m:Nat} {ann:Option Value} {b n:Nat} {s:SharedT} {t:Thread} {r:Option (Flow×SharedT×Code×Pos)} (h:Fast.tw10110043849684766642 Fast.tw14364793385576792824 p w m ann b n s t=r):segRunT treeTable p w m ann b n s t=r:=by
 rw [Fast.te10110043849684766642,Fast.te14364793385576792824]; exact h
theorem top_by {p:Program} {w:World} {m:Nat} {ann:Option Value} {n:Nat} {s:Shared} {t:Thread} {r:Option Shared} (h:Fast.tw14082659384304107361 Fast.tw14364793385576792824 p w m ann n s t=r):topRun treeTable p w m ann n s t=r:=by
 rw [Fast.te14082659384304107361,Fast.te14364793385576792824]; exact h
theorem den_tw:denote treeTable=Fast.tw11892475500146522536 Fast.tw14364793385576792824:=by rw [← Fast.te11892475500146522536,← Fast.te14364793385576792824]
theorem go_by {p:Program} {w:World} {m:Nat} {ann:Option Value} {n:Nat} {s:Shared} {t:Thread} {r:Option (Shared×Thread)} (h:Fast.tw15667345088766844465 Fast.tw14364793385576792824 p w m ann n s t=r):topGo treeTable p w m ann n s t=r:=by
 rw [Fast.te15667345088766844465,Fast.te14364793385576792824]; exact h
theorem rest_eq {b b':List Stmt} (e:b=b') {tb:String→Option Builtin} {p:Program} {w:World} {m:Nat} {ann:Option Value} {n:Nat} {s:Shared} {env:Env} {c:Code} {ps:Pos} {B:List Frame} {r:Option Shared} (h:topRun tb p w m ann n s (restOf b' env c ps B)=r):topRun tb p w m ann n s (restOf b env c ps B)=r:=by rw [e]; exact h
noncomputable def f1 (P:Params):List Obj:=a5 (top 1) 15 189 ["one","other","rest"] (.str "ringloads.divisors" 187)
noncomputable def f2 (P:Params):List Obj:=a5 (top 2) 22 198 ["one","other"] (.str "ringloads.divisors" 187)
noncomputable def f4 (P:Params):List Obj:=a5 (top 4) 29 208 ["thing"] (.str "ringloads.names" 206)
noncomputable def f5 (P:Params):List Obj:=a5 (top 5) 36 215 ["thing","many"] (.str "ringloads.names" 206)
noncomputable def f6 (P:Params):List Obj:=a5 (top 6) 43 223 ["thing"] (.str "ringloads.names" 206)
noncomputable def f7 (P:Params):List Obj:=a5 (top 7) 50 230 ["thing"] (.str "ringloads.names" 206)
noncomputable def f8 (P:Params):List Obj:=a5 (top 8) 57 237 ["thing","word","length"] (.str "ringloads.names" 206)
noncomputable def f10 (P:Params):List Obj:=[(Obj.mk (.type "tuple") none (.seq #[(.type "ValueError")] 0) #[]),
 (Obj.mk (.type "builtin_function_or_method") none (.fields #[(.builtin "type.__prepare__"),(.type "type")]) #[]),
 (Obj.mk (.type "dict") none (.dict #[(DictEntry.mk (kh P "__module__") (.str "__module__" 255) (.str "ringloads.errors" 246)),(DictEntry.mk (kh P "__qualname__") (.str "__qualname__" 257) (.str "LoadError" 256)),(DictEntry.mk (kh P "__firstlineno__") (.str "__firstlineno__" 259) (.int 24 258)),(DictEntry.mk (kh P "__init__") (.str "__init__" 267) (.ref 77)),(DictEntry.mk (kh P "__static_attributes__") (.str "__static_attributes__" 268) (.ref 78))] 5) #[]),
 (Obj.mk (.type "tuple") none (.seq #[] 0) #[]),
 (Obj.mk .none none (.fields #[(.int 26 0),(.int 4 0),(.ref 76)]) #[]),
 (Obj.mk (.type "code") none (.fields #[(.str "LoadError" 250),(.str "LoadError" 251),(.str "/claim/cut.py" 252),(.int 24 0),(.int 0 0),(.int 0 0),(.int 0 0),(.int 0 0),(.ref 67),(.bool false),(.int 181 0),(.ref 68),.none,.none,.none,.none,(.int 253 0),(.int 24 0),(.str "/claim/cut.py" 254)]) #[]),
 (Obj.mk (.type "frame") none .plain #[(some (.ref 69)),(some (.ref 3)),(some (.ref 66)),none,(some (.str "ringloads.errors" 246)),none,(some (.ref 0))]),
 (Obj.mk (.type "tuple") none (.seq #[] 0) #[]),
 (Obj.mk .none none (.fields #[]) #[]),
 (Obj.mk (.type "tuple") none (.seq #[(.str "self" 263),(.str "text" 264)] 0) #[]),
 (Obj.mk (.type "tuple") none (.seq #[] 0) #[]),
 (Obj.mk .none none (.func (fdOf (inCls (top 10) 0) "LoadError.__init__" 0 .none .none)) #[]),
 (Obj.mk (.type "code") none (.fields #[(.str "__init__" 260),(.str "LoadError.__init__" 261),(.str "/claim/cut.py" 262),(.int 26 0),(.int 2 0),(.int 0 0),(.int 0 0),(.int 3 0),(.ref 71),(.bool true),(.int 181 0),(.ref 72),.none,(.ref 73),(.ref 74),(.ref 75),(.int 265 0),(.int 26 0),(.str "/claim/cut.py" 266)]) #[]),
 (Obj.mk (.type "function") none (.func (fdOf (inCls (top 10) 0) "LoadError.__init__" 3 (.str "ringloads.errors" 246) (.ref 76))) #[]),
 (Obj.mk (.type "tuple") none (.seq #[] 0) #[]),
 (Obj.mk (.type "dict") none (.dict #[(DictEntry.mk (kh P "__module__") (.str "__module__" 255) (.str "ringloads.errors" 246)),(DictEntry.mk (kh P "__firstlineno__") (.str "__firstlineno__" 259) (.int 24 258)),(DictEntry.mk (kh P "__init__") (.str "__init__" 267) (.ref 77)),(DictEntry.mk (kh P "__static_attributes__") (.str "__static_attributes__" 268) (.ref 78)),(DictEntry.mk (kh P "__weakref__") (.str "__weakref__" 270) (.ref 81)),(DictEntry.mk (kh P "__doc__") (.str "__doc__" 271) .none)] 3) #[]),
 (Obj.mk (.type "type") none (.cls (PySem.ClassData.mk "LoadError" [(.type "ValueError")] [(.ref 80),(.type "ValueError"),(.type "Exception"),(.type "BaseException"),(.type "object")] 79 "LoadError" true [] [(.ref 93),(.ref 112),(.ref 124)] false none false)) #[(some (.ref 64)),none,(some (.str "LoadError" 248)),(some (.str "LoadError" 256)),(some (.builtin "ValueError.__new__")),(some (.bool true))]),
 (Obj.mk (.type "getset_descriptor") none (.fields #[(.str "__weakref__" 269),(.ref 80),(.builtin "ExceptionGroup.__weakref__"),.none]) #[]),
 (Obj.mk (.type "super") none (.fields #[(.ref 80),(.ref 80),(.ref 80)]) #[]),
 (Obj.mk (.type "builtin_function_or_method") none (.fields #[(.builtin "object.__init_subclass__"),(.ref 80)]) #[])]
noncomputable def f11 (P:Params):List Obj:=[(Obj.mk (.type "tuple") none (.seq #[(.ref 80)] 0) #[]),
 (Obj.mk (.type "builtin_function_or_method") none (.fields #[(.builtin "type.__prepare__"),(.type "type")]) #[]),
 (Obj.mk (.type "dict") none (.dict #[(DictEntry.mk (kh P "__module__") (.str "__module__" 281) (.str "ringloads.errors" 246)),(DictEntry.mk (kh P "__qualname__") (.str "__qualname__" 283) (.str "NoNumber" 282)),(DictEntry.mk (kh P "__firstlineno__") (.str "__firstlineno__" 285) (.int 28 284)),(DictEntry.mk (kh P "__static_attributes__") (.str "__static_attributes__" 286) (.ref 91))] 4) #[]),
 (Obj.mk (.type "tuple") none (.seq #[] 0) #[]),
 (Obj.mk .none none (.fields #[]) #[]),
 (Obj.mk (.type "code") none (.fields #[(.str "NoNumber" 276),(.str "NoNumber" 277),(.str "/claim/cut.py" 278),(.int 28 0),(.int 0 0),(.int 0 0),(.int 0 0),(.int 0 0),(.ref 87),(.bool false),(.int 181 0),(.ref 88),.none,.none,.none,.none,(.int 279 0),(.int 28 0),(.str "/claim/cut.py" 280)]) #[]),
 (Obj.mk (.type "frame") none .plain #[(some (.ref 89)),(some (.ref 3)),(some (.ref 86)),none,(some (.str "ringloads.errors" 246)),none,(some (.ref 0))]),
 (Obj.mk (.type "tuple") none (.seq #[] 0) #[]),
 (Obj.mk (.type "dict") none (.dict #[(DictEntry.mk (kh P "__module__") (.str "__module__" 281) (.str "ringloads.errors" 246)),(DictEntry.mk (kh P "__firstlineno__") (.str "__firstlineno__" 285) (.int 28 284)),(DictEntry.mk (kh P "__static_attributes__") (.str "__static_attributes__" 286) (.ref 91)),(DictEntry.mk (kh P "__doc__") (.str "__doc__" 287) .none)] 2) #[]),
 (Obj.mk (.type "type") none (.cls (PySem.ClassData.mk "NoNumber" [(.ref 80)] [(.ref 93),(.ref 80),(.type "ValueError"),(.type "Exception"),(.type "BaseException"),(.type "object")] 92 "NoNumber" true [] [] false none false)) #[(some (.ref 84)),none,(some (.str "NoNumber" 274)),(some (.str "NoNumber" 282)),(some (.builtin "ValueError.__new__")),(some (.bool true))]),
 (Obj.mk (.type "super") none (.fields #[(.ref 93),(.ref 93),(.ref 93)]) #[]),
 (Obj.mk (.type "builtin_function_or_method") none (.fields #[(.builtin "object.__init_subclass__"),(.ref 93)]) #[])]
noncomputable def f12 (P:Params):List Obj:=[(Obj.mk (.type "tuple") none (.seq #[(.ref 80)] 0) #[]),
 (Obj.mk (.type "builtin_function_or_method") none (.fields #[(.builtin "type.__prepare__"),(.type "type")]) #[]),
 (Obj.mk (.type "dict") none (.dict #[(DictEntry.mk (kh P "__module__") (.str "__module__" 297) (.str "ringloads.errors" 246)),(DictEntry.mk (kh P "__qualname__") (.str "__qualname__" 299) (.str "NoTree" 298)),(DictEntry.mk (kh P "__firstlineno__") (.str "__firstlineno__" 301) (.int 30 300)),(DictEntry.mk (kh P "__init__") (.str "__init__" 309) (.ref 109)),(DictEntry.mk (kh P "__static_attributes__") (.str "__static_attributes__" 311) (.ref 110))] 5) #[]),
 (Obj.mk (.type "tuple") none (.seq #[] 0) #[]),
 (Obj.mk .none none (.fields #[(.int 32 0),(.int 4 0),(.ref 108)]) #[]),
 (Obj.mk (.type "code") none (.fields #[(.str "NoTree" 292),(.str "NoTree" 293),(.str "/claim/cut.py" 294),(.int 30 0),(.int 0 0),(.int 0 0),(.int 0 0),(.int 0 0),(.ref 99),(.bool false),(.int 181 0),(.ref 100),.none,.none,.none,.none,(.int 295 0),(.int 30 0),(.str "/claim/cut.py" 296)]) #[]),
 (Obj.mk (.type "frame") none .plain #[(some (.ref 101)),(some (.ref 3)),(some (.ref 98)),none,(some (.str "ringloads.errors" 246)),none,(some (.ref 0))]),
 (Obj.mk (.type "tuple") none (.seq #[] 0) #[]),
 (Obj.mk .none none (.fields #[]) #[]),
 (Obj.mk (.type "tuple") none (.seq #[(.str "self" 305),(.str "way" 306)] 0) #[]),
 (Obj.mk (.type "tuple") none (.seq #[] 0) #[]),
 (Obj.mk .none none (.func (fdOf (inCls (top 12) 0) "NoTree.__init__" 0 .none .none)) #[]),
 (Obj.mk (.type "code") none (.fields #[(.str "__init__" 302),(.str "NoTree.__init__" 303),(.str "/claim/cut.py" 304),(.int 32 0),(.int 2 0),(.int 0 0),(.int 0 0),(.int 3 0),(.ref 103),(.bool true),(.int 181 0),(.ref 104),.none,(.ref 105),(.ref 106),(.ref 107),(.int 307 0),(.int 32 0),(.str "/claim/cut.py" 308)]) #[]),
 (Obj.mk (.type "function") none (.func (fdOf (inCls (top 12) 0) "NoTree.__init__" 3 (.str "ringloads.errors" 246) (.ref 108))) #[]),
 (Obj.mk (.type "tuple") none (.seq #[(.str "way" 310)] 0) #[]),
 (Obj.mk (.type "dict") none (.dict #[(DictEntry.mk (kh P "__module__") (.str "__module__" 297) (.str "ringloads.errors" 246)),(DictEntry.mk (kh P "__firstlineno__") (.str "__firstlineno__" 301) (.int 30 300)),(DictEntry.mk (kh P "__init__") (.str "__init__" 309) (.ref 109)),(DictEntry.mk (kh P "__static_attributes__") (.str "__static_attributes__" 311) (.ref 110)),(DictEntry.mk (kh P "__doc__") (.str "__doc__" 312) .none)] 2) #[]),
 (Obj.mk (.type "type") none (.cls (PySem.ClassData.mk "NoTree" [(.ref 80)] [(.ref 112),(.ref 80),(.type "ValueError"),(.type "Exception"),(.type "BaseException"),(.type "object")] 111 "NoTree" true [] [] false none false)) #[(some (.ref 96)),none,(some (.str "NoTree" 290)),(some (.str "NoTree" 298)),(some (.builtin "ValueError.__new__")),(some (.bool true))]),
 (Obj.mk (.type "super") none (.fields #[(.ref 112),(.ref 112),(.ref 112)]) #[]),
 (Obj.mk (.type "builtin_function_or_method") none (.fields #[(.builtin "object.__init_subclass__"),(.ref 112)]) #[])]
noncomputable def f13 (P:Params):List Obj:=[(Obj.mk (.type "tuple") none (.seq #[(.ref 80)] 0) #[]),
 (Obj.mk (.type "builtin_function_or_method") none (.fields #[(.builtin "type.__prepare__"),(.type "type")]) #[]),
 (Obj.mk (.type "dict") none (.dict #[(DictEntry.mk (kh P "__module__") (.str "__module__" 322) (.str "ringloads.errors" 246)),(DictEntry.mk (kh P "__qualname__") (.str "__qualname__" 324) (.str "TooMany" 323)),(DictEntry.mk (kh P "__firstlineno__") (.str "__firstlineno__" 326) (.int 35 325)),(DictEntry.mk (kh P "__static_attributes__") (.str "__static_attributes__" 327) (.ref 122))] 4) #[]),
 (Obj.mk (.type "tuple") none (.seq #[] 0) #[]),
 (Obj.mk .none none (.fields #[]) #[]),
 (Obj.mk (.type "code") none (.fields #[(.str "TooMany" 317),(.str "TooMany" 318),(.str "/claim/cut.py" 319),(.int 35 0),(.int 0 0),(.int 0 0),(.int 0 0),(.int 0 0),(.ref 118),(.bool false),(.int 181 0),(.ref 119),.none,.none,.none,.none,(.int 320 0),(.int 35 0),(.str "/claim/cut.py" 321)]) #[]),
 (Obj.mk (.type "frame") none .plain #[(some (.ref 120)),(some (.ref 3)),(some (.ref 117)),none,(some (.str "ringloads.errors" 246)),none,(some (.ref 0))]),
 (Obj.mk (.type "tuple") none (.seq #[] 0) #[]),
 (Obj.mk (.type "dict") none (.dict #[(DictEntry.mk (kh P "__module__") (.str "__module__" 322) (.str "ringloads.errors" 246)),(DictEntry.mk (kh P "__firstlineno__") (.str "__firstlineno__" 326) (.int 35 325)),(DictEntry.mk (kh P "__static_attributes__") (.str "__static_attributes__" 327) (.ref 122)),(DictEntry.mk (kh P "__doc__") (.str "__doc__" 328) .none)] 2) #[]),
 (Obj.mk (.type "type") none (.cls (PySem.ClassData.mk "TooMany" [(.ref 80)] [(.ref 124),(.ref 80),(.type "ValueError"),(.type "Exception"),(.type "BaseException"),(.type "object")] 123 "TooMany" true [] [] false none false)) #[(some (.ref 115)),none,(some (.str "TooMany" 315)),(some (.str "TooMany" 323)),(some (.builtin "ValueError.__new__")),(some (.bool true))]),
 (Obj.mk (.type "super") none (.fields #[(.ref 124),(.ref 124),(.ref 124)]) #[]),
 (Obj.mk (.type "builtin_function_or_method") none (.fields #[(.builtin "object.__init_subclass__"),(.ref 124)]) #[])]
noncomputable def f15 (P:Params):List Obj:=[(Obj.mk (.type "tuple") none (.seq #[(.int 0 333),(.int 1 334)] 0) #[])]
noncomputable def f16 (P:Params):List Obj:=a5 (top 16) 128 336 ["top","bottom","shared"] (.str "ringloads.ratios" 331)
noncomputable def f17 (P:Params):List Obj:=a5 (top 17) 135 345 ["one","other"] (.str "ringloads.ratios" 331)
noncomputable def f18 (P:Params):List Obj:=a5 (top 18) 142 353 ["one","other"] (.str "ringloads.ratios" 331)
noncomputable def f19 (P:Params):List Obj:=a5 (top 19) 149 361 ["one","other"] (.str "ringloads.ratios" 331)
noncomputable def f20 (P:Params):List Obj:=a5 (top 20) 156 369 ["one","other"] (.str "ringloads.ratios" 331)
noncomputable def f21 (P:Params):List Obj:=a5 (top 21) 163 377 ["one","other"] (.str "ringloads.ratios" 331)
noncomputable def f22 (P:Params):List Obj:=a5 (top 22) 170 385 ["some","whole","one"] (.str "ringloads.ratios" 331)
noncomputable def f24 (P:Params):List Obj:=a5 (top 24) 177 396 ["ring","thing"] (.str "ringloads.cuts" 394)
noncomputable def f25 (P:Params):List Obj:=a5 (top 25) 184 404 ["cut","place"] (.str "ringloads.cuts" 394)
noncomputable def f26 (P:Params):List Obj:=a5 (top 26) 191 412 ["cut","one","other"] (.str "ringloads.cuts" 394)
noncomputable def f27 (P:Params):List Obj:=dQ (top 27) 198 421 (.str "ringloads.cuts" 394)
noncomputable def f29 (P:Params):List Obj:=dQ (top 29) 203 429 (.str "ringloads.units" 427)
noncomputable def f30 (P:Params):List Obj:=a5 (top 30) 208 435 ["some","bottom","one"] (.str "ringloads.units" 427)
noncomputable def f31 (P:Params):List Obj:=dQ (top 31) 215 444 (.str "ringloads.units" 427)
noncomputable def f35 (P:Params):List Obj:=a5 (top 35) 220 456 ["thing"] (.str "ringloads.ways" 450)
noncomputable def f36 (P:Params):List Obj:=a5 (top 36) 227 463 ["way"] (.str "ringloads.ways" 450)
noncomputable def f37 (P:Params):List Obj:=a5 (top 37) 234 470 ["ring","k","way","tie","places","one","other","lies_on"] (.str "ringloads.ways" 450)
noncomputable def f39 (P:Params):List Obj:=a5 (top 39) 241 486 ["ring","sending","k","tie"] (.str "ringloads.loads" 484)
noncomputable def f40 (P:Params):List Obj:=dQ (top 40) 248 496 (.str "ringloads.loads" 484)
noncomputable def f41 (P:Params):List Obj:=dQ (top 41) 253 502 (.str "ringloads.loads" 484)
noncomputable def f42 (P:Params):List Obj:=dQ (top 42) 258 508 (.str "ringloads.loads" 484)
noncomputable def f43 (P:Params):List Obj:=a5 (top 43) 263 514 ["ring","sending","strains","top","tie","strain"] (.str "ringloads.loads" 484)
noncomputable def f45 (P:Params):List Obj:=dQ (top 45) 270 528 (.str "ringloads.sendings" 526)
noncomputable def f46 (P:Params):List Obj:=dQ (top 46) 275 534 (.str "ringloads.sendings" 526)
noncomputable def f47 (P:Params):List Obj:=a5 (top 47) 280 540 ["ring","ways"] (.str "ringloads.sendings" 526)
noncomputable def f48 (P:Params):List Obj:=a5 (top 48) 287 548 ["ring","thing","top"] (.str "ringloads.sendings" 526)
noncomputable def f50 (P:Params):List Obj:=dQ (top 50) 294 559 (.str "ringloads.wishes" 557)
noncomputable def f51 (P:Params):List Obj:=a5 (top 51) 299 565 ["wish","load","bound"] (.str "ringloads.wishes" 557)
noncomputable def f52 (P:Params):List Obj:=a5 (top 52) 306 574 ["wish","ways"] (.str "ringloads.wishes" 557)
noncomputable def f53 (P:Params):List Obj:=a5 (top 53) 313 582 ["ring","wish","ways","top","tie","strain"] (.str "ringloads.wishes" 557)
noncomputable def f59 (P:Params):List Obj:=a5 (top 59) 320 604 ["thing"] (.str "ringloads.trees" 594)
noncomputable def f60 (P:Params):List Obj:=dQ (top 60) 327 611 (.str "ringloads.trees" 594)
noncomputable def f61 (P:Params):List Obj:=a5 (top 61) 332 617 ["ring","wish","thing"] (.str "ringloads.trees" 594)
noncomputable def f62 (P:Params):List Obj:=a5 (top 62) 339 626 ["here","way","tree","fixed"] (.str "ringloads.trees" 594)
noncomputable def f63 (P:Params):List Obj:=a5 (top 63) 346 636 ["ring","wish","scale","fixed","thing"] (.str "ringloads.trees" 594)
noncomputable def f64 (P:Params):List Obj:=dQ (top 64) 353 647 (.str "ringloads.trees" 594)
noncomputable def f65 (P:Params):List Obj:=dQ (top 65) 358 653 (.str "ringloads.trees" 594)
noncomputable def f68 (P:Params):List Obj:=dQ (top 68) 363 663 (.str "ringloads.search" 659)
noncomputable def f69 (P:Params):List Obj:=dQ (top 69) 368 669 (.str "ringloads.search" 659)
noncomputable def f70 (P:Params):List Obj:=dQ (top 70) 373 675 (.str "ringloads.search" 659)
noncomputable def f71 (P:Params):List Obj:=a5 (top 71) 378 681 ["wish","bounds","fixed","loads","cut","bound"] (.str "ringloads.search" 659)
noncomputable def f73 (P:Params):List Obj:=dQ (top 73) 385 695 (.str "ringloads.best" 693)
noncomputable def f74 (P:Params):List Obj:=dQ (top 74) 390 701 (.str "ringloads.best" 693)
noncomputable def f75 (P:Params):List Obj:=a5 (top 75) 395 707 ["ring","thing"] (.str "ringloads.best" 693)
noncomputable def f77 (P:Params):List Obj:=a5 (top 77) 402 717 ["_law_script","_law_k","_law_cell"] (.str "law_ringloads_k92_whole_all_ways_walked" 715)
noncomputable def f78 (P:Params):List Obj:=a5 (top 78) 409 726 ["_law_state","_law_many","_law_digit","_law_drawn","_law_turn"] (.str "law_ringloads_k92_whole_all_ways_walked" 715)
noncomputable def f79 (P:Params):List Obj:=a5 (top 79) 416 737 ["_law_top","_law_bottom","_law_one","_law_share"] (.str "law_ringloads_k92_whole_all_ways_walked" 715)
noncomputable def f80 (P:Params):List Obj:=a5 (top 80) 423 747 ["_law_state","_law_least","_law_kind","_law_bottom","_law_top"] (.str "law_ringloads_k92_whole_all_ways_walked" 715)
noncomputable def f81 (P:Params):List Obj:=dQ (top 81) 430 758 (.str "law_ringloads_k92_whole_all_ways_walked" 715)
noncomputable def f82 (P:Params):List Obj:=a5 (top 82) 435 764 ["_law_state","_law_ties","_law_kind","_law_alike","_law_one","_law_rooms_here","_law_more"] (.str "law_ringloads_k92_whole_all_ways_walked" 715)
noncomputable def f83 (P:Params):List Obj:=a5 (top 83) 442 777 ["_law_state","_law_shape","_law_places","_law_k","_law_one","_law_other"] (.str "law_ringloads_k92_whole_all_ways_walked" 715)
noncomputable def f84 (P:Params):List Obj:=a5 (top 84) 449 789 ["_law_script","_law_at","_law_most","_law_count","_law_state","_law_places","_law_many","_law_kinds","_law_shape","_law_names_here","_law_rooms_here","_law_asks","_law_k","_law_one","_law_other"] (.str "law_ringloads_k92_whole_all_ways_walked" 715)
noncomputable def f85 (P:Params):List Obj:=dQ (top 85) 456 810 (.str "law_ringloads_k92_whole_all_ways_walked" 715)
noncomputable def f86 (P:Params):List Obj:=dQ (top 86) 461 816 (.str "law_ringloads_k92_whole_all_ways_walked" 715)
noncomputable def f87 (P:Params):List Obj:=a5 (top 87) 466 822 ["_law_ring_here","_law_wish_here","_law_tree"] (.str "law_ringloads_k92_whole_all_ways_walked" 715)
noncomputable def f88 (P:Params):List Obj:=a5 (top 88) 473 831 ["_law_one","_law_other"] (.str "law_ringloads_k92_whole_all_ways_walked" 715)
noncomputable def f89 (P:Params):List Obj:=a5 (top 89) 480 839 ["_law_state","_law_ring_here","_law_elder","_law_top"] (.str "law_ringloads_k92_whole_all_ways_walked" 715)
noncomputable def f90 (P:Params):List Obj:=dQ (top 90) 487 849 (.str "law_ringloads_k92_whole_all_ways_walked" 715)
noncomputable def f91 (P:Params):List Obj:=a5 (top 91) 492 855 ["_law_ring_here","_law_every","_law_top","_law_ways_here","_law_tree","_law_other","_law_there"] (.str "law_ringloads_k92_whole_all_ways_walked" 715)
noncomputable def f92 (P:Params):List Obj:=dQ (top 92) 499 868 (.str "law_ringloads_k92_whole_all_ways_walked" 715)
noncomputable def oblll (P:Params) (b:Nat):Obj:=(bif b.blt 43 then (bif b.blt 29 then (bif b.blt 22 then (f1 P).getD (b - 15) default else (f2 P).getD (b - 22) default) else (bif b.blt 36 then (f4 P).getD (b - 29) default else (f5 P).getD (b - 36) default)) else (bif b.blt 57 then (bif b.blt 50 then (f6 P).getD (b - 43) default else (f7 P).getD (b - 50) default) else (bif b.blt 64 then (f8 P).getD (b - 57) default else (bif b.blt 84 then (f10 P).getD (b - 64) default else (f11 P).getD (b - 84) default))))
noncomputable def obllr (P:Params) (b:Nat):Obj:=(bif b.blt 135 then (bif b.blt 127 then (bif b.blt 115 then (f12 P).getD (b - 96) default else (f13 P).getD (b - 115) default) else (bif b.blt 128 then (f15 P).getD (b - 127) default else (f16 P).getD (b - 128) default)) else (bif b.blt 149 then (bif b.blt 142 then (f17 P).getD (b - 135) default else (f18 P).getD (b - 142) default) else (bif b.blt 156 then (f19 P).getD (b - 149) default else (bif b.blt 163 then (f20 P).getD (b - 156) default else (f21 P).getD (b - 163) default))))
noncomputable def obll (P:Params) (b:Nat):Obj:=bif b.blt 96 then oblll P b else obllr P b
noncomputable def oblrl (P:Params) (b:Nat):Obj:=(bif b.blt 198 then (bif b.blt 184 then (bif b.blt 177 then (f22 P).getD (b - 170) default else (f24 P).getD (b - 177) default) else (bif b.blt 191 then (f25 P).getD (b - 184) default else (f26 P).getD (b - 191) default)) else (bif b.blt 208 then (bif b.blt 203 then (f27 P).getD (b - 198) default else (f29 P).getD (b - 203) default) else (bif b.blt 215 then (f30 P).getD (b - 208) default else (bif b.blt 220 then (f31 P).getD (b - 215) default else (f35 P).getD (b - 220) default))))
noncomputable def oblrr (P:Params) (b:Nat):Obj:=(bif b.blt 253 then (bif b.blt 241 then (bif b.blt 234 then (f36 P).getD (b - 227) default else (f37 P).getD (b - 234) default) else (bif b.blt 248 then (f39 P).getD (b - 241) default else (f40 P).getD (b - 248) default)) else (bif b.blt 263 then (bif b.blt 258 then (f41 P).getD (b - 253) default else (f42 P).getD (b - 258) default) else (bif b.blt 270 then (f43 P).getD (b - 263) default else (bif b.blt 275 then (f45 P).getD (b - 270) default else (f46 P).getD (b - 275) default))))
noncomputable def oblr (P:Params) (b:Nat):Obj:=bif b.blt 227 then oblrl P b else oblrr P b
noncomputable def obl (P:Params) (b:Nat):Obj:=bif b.blt 170 then obll P b else oblr P b
noncomputable def obrll (P:Params) (b:Nat):Obj:=(bif b.blt 306 then (bif b.blt 294 then (bif b.blt 287 then (f47 P).getD (b - 280) default else (f48 P).getD (b - 287) default) else (bif b.blt 299 then (f50 P).getD (b - 294) default else (f51 P).getD (b - 299) default)) else (bif b.blt 320 then (bif b.blt 313 then (f52 P).getD (b - 306) default else (f53 P).getD (b - 313) default) else (bif b.blt 327 then (f59 P).getD (b - 320) default else (bif b.blt 332 then (f60 P).getD (b - 327) default else (f61 P).getD (b - 332) default))))
noncomputable def obrlr (P:Params) (b:Nat):Obj:=(bif b.blt 363 then (bif b.blt 353 then (bif b.blt 346 then (f62 P).getD (b - 339) default else (f63 P).getD (b - 346) default) else (bif b.blt 358 then (f64 P).getD (b - 353) default else (f65 P).getD (b - 358) default)) else (bif b.blt 373 then (bif b.blt 368 then (f68 P).getD (b - 363) default else (f69 P).getD (b - 368) default) else (bif b.blt 378 then (f70 P).getD (b - 373) default else (bif b.blt 385 then (f71 P).getD (b - 378) default else (f73 P).getD (b - 385) default))))
noncomputable def obrl (P:Params) (b:Nat):Obj:=bif b.blt 339 then obrll P b else obrlr P b
noncomputable def obrrl (P:Params) (b:Nat):Obj:=(bif b.blt 416 then (bif b.blt 402 then (bif b.blt 395 then (f74 P).getD (b - 390) default else (f75 P).getD (b - 395) default) else (bif b.blt 409 then (f77 P).getD (b - 402) default else (f78 P).getD (b - 409) default)) else (bif b.blt 430 then (bif b.blt 423 then (f79 P).getD (b - 416) default else (f80 P).getD (b - 423) default) else (bif b.blt 435 then (f81 P).getD (b - 430) default else (bif b.blt 442 then (f82 P).getD (b - 435) default else (f83 P).getD (b - 442) default))))
noncomputable def obrrr (P:Params) (b:Nat):Obj:=(bif b.blt 473 then (bif b.blt 461 then (bif b.blt 456 then (f84 P).getD (b - 449) default else (f85 P).getD (b - 456) default) else (bif b.blt 466 then (f86 P).getD (b - 461) default else (f87 P).getD (b - 466) default)) else (bif b.blt 487 then (bif b.blt 480 then (f88 P).getD (b - 473) default else (f89 P).getD (b - 480) default) else (bif b.blt 492 then (f90 P).getD (b - 487) default else (bif b.blt 499 then (f91 P).getD (b - 492) default else (f92 P).getD (b - 499) default))))
noncomputable def obrr (P:Params) (b:Nat):Obj:=bif b.blt 449 then obrrl P b else obrrr P b
noncomputable def obr (P:Params) (b:Nat):Obj:=bif b.blt 390 then obrl P b else obrr P b
noncomputable def ob (P:Params) (b:Nat):Obj:=bif b.blt 280 then obl P b else obr P b
noncomputable def ents (P:Params):List DictEntry:=[(DictEntry.mk (kh P "greatest_shared") (.str "greatest_shared" 197) (.ref 21)),
 (DictEntry.mk (kh P "least_common") (.str "least_common" 205) (.ref 28)),
 (DictEntry.mk (kh P "is_whole") (.str "is_whole" 214) (.ref 35)),
 (DictEntry.mk (kh P "is_number_below") (.str "is_number_below" 222) (.ref 42)),
 (DictEntry.mk (kh P "are_two_wholes") (.str "are_two_wholes" 229) (.ref 49)),
 (DictEntry.mk (kh P "is_ratio") (.str "is_ratio" 236) (.ref 56)),
 (DictEntry.mk (kh P "is_told_as") (.str "is_told_as" 245) (.ref 63)),
 (DictEntry.mk (kh P "LoadError") (.str "LoadError" 273) (.ref 80)),
 (DictEntry.mk (kh P "NoNumber") (.str "NoNumber" 289) (.ref 93)),
 (DictEntry.mk (kh P "NoTree") (.str "NoTree" 314) (.ref 112)),
 (DictEntry.mk (kh P "TooMany") (.str "TooMany" 330) (.ref 124)),
 (DictEntry.mk (kh P "NOUGHT") (.str "NOUGHT" 335) (.ref 127)),
 (DictEntry.mk (kh P "lowest") (.str "lowest" 344) (.ref 134)),
 (DictEntry.mk (kh P "plus") (.str "plus" 352) (.ref 141)),
 (DictEntry.mk (kh P "minus") (.str "minus" 360) (.ref 148)),
 (DictEntry.mk (kh P "times") (.str "times" 368) (.ref 155)),
 (DictEntry.mk (kh P "over") (.str "over" 376) (.ref 162)),
 (DictEntry.mk (kh P "under") (.str "under" 384) (.ref 169)),
 (DictEntry.mk (kh P "sum_of") (.str "sum_of" 393) (.ref 176)),
 (DictEntry.mk (kh P "is_cut") (.str "is_cut" 403) (.ref 183)),
 (DictEntry.mk (kh P "is_within") (.str "is_within" 411) (.ref 190)),
 (DictEntry.mk (kh P "parts_places") (.str "parts_places" 420) (.ref 197)),
 (DictEntry.mk (kh P "all_cuts") (.str "all_cuts" 426) (.ref 202)),
 (DictEntry.mk (kh P "weighed") (.str "weighed" 434) (.ref 207)),
 (DictEntry.mk (kh P "common_bottom") (.str "common_bottom" 443) (.ref 214)),
 (DictEntry.mk (kh P "in_units") (.str "in_units" 449) (.ref 219)),
 (DictEntry.mk (kh P "ON") (.str "ON" 453) (.str "on" 452)),
 (DictEntry.mk (kh P "BACK") (.str "BACK" 455) (.str "back" 454)),
 (DictEntry.mk (kh P "is_way") (.str "is_way" 462) (.ref 226)),
 (DictEntry.mk (kh P "other_way") (.str "other_way" 469) (.ref 233)),
 (DictEntry.mk (kh P "is_over") (.str "is_over" 483) (.ref 240)),
 (DictEntry.mk (kh P "sent_over") (.str "sent_over" 495) (.ref 247)),
 (DictEntry.mk (kh P "load_of") (.str "load_of" 501) (.ref 252)),
 (DictEntry.mk (kh P "loads_of") (.str "loads_of" 507) (.ref 257)),
 (DictEntry.mk (kh P "strains_of") (.str "strains_of" 513) (.ref 262)),
 (DictEntry.mk (kh P "top_of") (.str "top_of" 525) (.ref 269)),
 (DictEntry.mk (kh P "are_ways") (.str "are_ways" 533) (.ref 274)),
 (DictEntry.mk (kh P "sent_by") (.str "sent_by" 539) (.ref 279)),
 (DictEntry.mk (kh P "top_by") (.str "top_by" 547) (.ref 286)),
 (DictEntry.mk (kh P "are_ways_with_top") (.str "are_ways_with_top" 556) (.ref 293)),
 (DictEntry.mk (kh P "turned_by") (.str "turned_by" 564) (.ref 298)),
 (DictEntry.mk (kh P "is_too_much") (.str "is_too_much" 573) (.ref 305)),
 (DictEntry.mk (kh P "are_too_many") (.str "are_too_many" 581) (.ref 312)),
 (DictEntry.mk (kh P "broken_wish") (.str "broken_wish" 593) (.ref 319)),
 (DictEntry.mk (kh P "CUT") (.str "CUT" 597) (.str "cut" 596)),
 (DictEntry.mk (kh P "TURNED") (.str "TURNED" 599) (.str "turned" 598)),
 (DictEntry.mk (kh P "SPLIT") (.str "SPLIT" 601) (.str "split" 600)),
 (DictEntry.mk (kh P "MOST_WALKED") (.str "MOST_WALKED" 603) (.int 300 602)),
 (DictEntry.mk (kh P "is_split") (.str "is_split" 610) (.ref 326)),
 (DictEntry.mk (kh P "look_at_tree") (.str "look_at_tree" 616) (.ref 331)),
 (DictEntry.mk (kh P "is_tree") (.str "is_tree" 625) (.ref 338)),
 (DictEntry.mk (kh P "branch_of") (.str "branch_of" 635) (.ref 345)),
 (DictEntry.mk (kh P "can_stand") (.str "can_stand" 646) (.ref 352)),
 (DictEntry.mk (kh P "is_too_full") (.str "is_too_full" 652) (.ref 357)),
 (DictEntry.mk (kh P "times_over") (.str "times_over" 658) (.ref 362)),
 (DictEntry.mk (kh P "MOST_SEARCHED") (.str "MOST_SEARCHED" 662) (.int 7 661)),
 (DictEntry.mk (kh P "ways_for") (.str "ways_for" 668) (.ref 367)),
 (DictEntry.mk (kh P "bounds_of") (.str "bounds_of" 674) (.ref 372)),
 (DictEntry.mk (kh P "searched") (.str "searched" 680) (.ref 377)),
 (DictEntry.mk (kh P "reason_against") (.str "reason_against" 692) (.ref 384)),
 (DictEntry.mk (kh P "wish_for_less") (.str "wish_for_less" 700) (.ref 389)),
 (DictEntry.mk (kh P "best_ways") (.str "best_ways" 706) (.ref 394)),
 (DictEntry.mk (kh P "lets_best") (.str "lets_best" 714) (.ref 401)),
 (DictEntry.mk (kh P "_law_begun") (.str "_law_begun" 725) (.ref 408)),
 (DictEntry.mk (kh P "_law_take") (.str "_law_take" 736) (.ref 415)),
 (DictEntry.mk (kh P "_law_low") (.str "_law_low" 746) (.ref 422)),
 (DictEntry.mk (kh P "_law_amount") (.str "_law_amount" 757) (.ref 429)),
 (DictEntry.mk (kh P "_law_names") (.str "_law_names" 763) (.ref 434)),
 (DictEntry.mk (kh P "_law_rooms") (.str "_law_rooms" 776) (.ref 441)),
 (DictEntry.mk (kh P "_law_ends") (.str "_law_ends" 788) (.ref 448)),
 (DictEntry.mk (kh P "_law_ring") (.str "_law_ring" 809) (.ref 455)),
 (DictEntry.mk (kh P "_law_all_ways") (.str "_law_all_ways" 815) (.ref 460)),
 (DictEntry.mk (kh P "_law_ways") (.str "_law_ways" 821) (.ref 465)),
 (DictEntry.mk (kh P "_law_lets") (.str "_law_lets" 830) (.ref 472)),
 (DictEntry.mk (kh P "_law_under") (.str "_law_under" 838) (.ref 479)),
 (DictEntry.mk (kh P "_law_wish") (.str "_law_wish" 848) (.ref 486)),
 (DictEntry.mk (kh P "_law_right") (.str "_law_right" 854) (.ref 491)),
 (DictEntry.mk (kh P "_law_best_right") (.str "_law_best_right" 867) (.ref 498)),
 (DictEntry.mk (kh P "law") (.str "law" 873) (.ref 503))]
def plc:List Value:=[(.int 2 0),(.int 0 0),(.ref 20),(.int 8 0),(.int 0 0),(.ref 27),(.int 11 0),(.int 0 0),(.ref 34),(.int 13 0),(.int 0 0),(.ref 41),(.int 15 0),(.int 0 0),(.ref 48),(.int 17 0),(.int 0 0),(.ref 55),(.int 19 0),(.int 0 0),(.ref 62),(.int 24 0),(.int 0 0),(.ref 69),(.int 28 0),(.int 0 0),(.ref 89),(.int 30 0),(.int 0 0),(.ref 101),(.int 35 0),(.int 0 0),(.ref 120),(.int 39 0),(.int 0 0),(.ref 133),(.int 44 0),(.int 0 0),(.ref 140),(.int 46 0),(.int 0 0),(.ref 147),(.int 48 0),(.int 0 0),(.ref 154),(.int 50 0),(.int 0 0),(.ref 161),(.int 54 0),(.int 0 0),(.ref 168),(.int 56 0),(.int 0 0),(.ref 175),(.int 62 0),(.int 0 0),(.ref 182),(.int 64 0),(.int 0 0),(.ref 189),(.int 66 0),(.int 0 0),(.ref 196),(.int 68 0),(.int 0 0),(.ref 201),(.int 74 0),(.int 0 0),(.ref 206),(.int 79 0),(.int 0 0),(.ref 213),(.int 84 0),(.int 0 0),(.ref 218),(.int 89 0),(.int 0 0),(.ref 225),(.int 91 0),(.int 0 0),(.ref 232),(.int 93 0),(.int 0 0),(.ref 239),(.int 100 0),(.int 0 0),(.ref 246),(.int 104 0),(.int 0 0),(.ref 251),(.int 106 0),(.int 0 0),(.ref 256),(.int 108 0),(.int 0 0),(.ref 261),(.int 110 0),(.int 0 0),(.ref 268),(.int 118 0),(.int 0 0),(.ref 273),(.int 122 0),(.int 0 0),(.ref 278),(.int 124 0),(.int 0 0),(.ref 285),(.int 126 0),(.int 0 0),(.ref 292),(.int 129 0),(.int 0 0),(.ref 297),(.int 132 0),(.int 0 0),(.ref 304),(.int 134 0),(.int 0 0),(.ref 311),(.int 136 0),(.int 0 0),(.ref 318),(.int 149 0),(.int 0 0),(.ref 325),(.int 151 0),(.int 0 0),(.ref 330),(.int 163 0),(.int 0 0),(.ref 337),(.int 169 0),(.int 0 0),(.ref 344),(.int 174 0),(.int 0 0),(.ref 351),(.int 180 0),(.int 0 0),(.ref 356),(.int 184 0),(.int 0 0),(.ref 361),(.int 190 0),(.int 0 0),(.ref 366),(.int 195 0),(.int 0 0),(.ref 371),(.int 201 0),(.int 0 0),(.ref 376),(.int 216 0),(.int 0 0),(.ref 383),(.int 224 0),(.int 0 0),(.ref 388),(.int 226 0),(.int 0 0),(.ref 393),(.int 234 0),(.int 0 0),(.ref 400),(.int 239 0),(.int 0 0),(.ref 407),(.int 244 0),(.int 0 0),(.ref 414),(.int 255 0),(.int 0 0),(.ref 421),(.int 263 0),(.int 0 0),(.ref 428),(.int 267 0),(.int 0 0),(.ref 433),(.int 273 0),(.int 0 0),(.ref 440),(.int 283 0),(.int 0 0),(.ref 447),(.int 293 0),(.int 0 0),(.ref 454),(.int 307 0),(.int 0 0),(.ref 459),(.int 312 0),(.int 0 0),(.ref 464),(.int 314 0),(.int 0 0),(.ref 471),(.int 320 0),(.int 0 0),(.ref 478),(.int 322 0),(.int 0 0),(.ref 485),(.int 327 0),(.int 0 0),(.ref 490),(.int 338 0),(.int 0 0),(.ref 497),(.int 347 0),(.int 0 0),(.ref 502)]
noncomputable def ov0 (P:Params):List (Nat×Obj):=[(12,fldO (plc.take 0))]
noncomputable def T0 (P:Params):BT:=L12 15 (fun b=>obAt [12] P (ov0 P) ob b 0) 1 0 0
noncomputable abbrev S0 (w:World) (os:OsState):SharedT:=⟨T0 w.params,15,life0,#[],⟨0,0,0,0⟩,187,os⟩
noncomputable def ov1 (P:Params):List (Nat×Obj):=[(3,mainD P (.str "ringloads.errors" 246) ((ents P).take 7) 16),(12,fldO (plc.take 21))]
noncomputable def T1 (P:Params):BT:=L12 64 (fun b=>obAt [3,12] P (ov1 P) ob b 1) 1 0 1
noncomputable abbrev S1 (w:World) (os:OsState):SharedT:=⟨T1 w.params,64,life0,#[],⟨0,0,0,0⟩,248,os⟩
noncomputable def ov2 (P:Params):List (Nat×Obj):=[(3,mainD P (.str "ringloads.errors" 246) ((ents P).take 8) 17),(12,fldO (plc.take 24)),(80,(Obj.mk (.type "type") none (.cls (PySem.ClassData.mk "LoadError" [(.type "ValueError")] [(.ref 80),(.type "ValueError"),(.type "Exception"),(.type "BaseException"),(.type "object")] 79 "LoadError" true [] [] false none false)) #[(some (.ref 64)),none,(some (.str "LoadError" 248)),(some (.str "LoadError" 256)),(some (.builtin "ValueError.__new__")),(some (.bool true))]))]
noncomputable def T2 (P:Params):BT:=L12 84 (fun b=>obAt [3,12,80] P (ov2 P) ob b 2) 1 0 2
noncomputable abbrev S2 (w:World) (os:OsState):SharedT:=⟨T2 w.params,84,life0,#[],⟨0,0,0,0⟩,274,os⟩
noncomputable def ov3 (P:Params):List (Nat×Obj):=[(3,mainD P (.str "ringloads.errors" 246) ((ents P).take 9) 18),(12,fldO (plc.take 27)),(80,(Obj.mk (.type "type") none (.cls (PySem.ClassData.mk "LoadError" [(.type "ValueError")] [(.ref 80),(.type "ValueError"),(.type "Exception"),(.type "BaseException"),(.type "object")] 79 "LoadError" true [] [(.ref 93)] false none false)) #[(some (.ref 64)),none,(some (.str "LoadError" 248)),(some (.str "LoadError" 256)),(some (.builtin "ValueError.__new__")),(some (.bool true))]))]
noncomputable def T3 (P:Params):BT:=L12 96 (fun b=>obAt [3,12,80] P (ov3 P) ob b 3) 1 0 3
noncomputable abbrev S3 (w:World) (os:OsState):SharedT:=⟨T3 w.params,96,life0,#[],⟨0,0,0,0⟩,290,os⟩
noncomputable def ov4 (P:Params):List (Nat×Obj):=[(3,mainD P (.str "ringloads.errors" 246) ((ents P).take 10) 19),(12,fldO (plc.take 30)),(80,(Obj.mk (.type "type") none (.cls (PySem.ClassData.mk "LoadError" [(.type "ValueError")] [(.ref 80),(.type "ValueError"),(.type "Exception"),(.type "BaseException"),(.type "object")] 79 "LoadError" true [] [(.ref 93),(.ref 112)] false none false)) #[(some (.ref 64)),none,(some (.str "LoadError" 248)),(some (.str "LoadError" 256)),(some (.builtin "ValueError.__new__")),(some (.bool true))]))]
noncomputable def T4 (P:Params):BT:=L12 115 (fun b=>obAt [3,12,80] P (ov4 P) ob b 4) 1 0 4
noncomputable abbrev S4 (w:World) (os:OsState):SharedT:=⟨T4 w.params,115,life0,#[],⟨0,0,0,0⟩,315,os⟩
noncomputable def ov5 (P:Params):List (Nat×Obj):=[(3,mainD P (.str "ringloads.ratios" 331) ((ents P).take 17) 26),(12,fldO (plc.take 48))]
noncomputable def T5 (P:Params):BT:=L12 163 (fun b=>obAt [3,12] P (ov5 P) ob b 5) 1 0 5
noncomputable abbrev S5 (w:World) (os:OsState):SharedT:=⟨T5 w.params,163,life0,#[],⟨0,0,0,0⟩,377,os⟩
noncomputable def ov6 (P:Params):List (Nat×Obj):=[(3,mainD P (.str "ringloads.ways" 450) ((ents P).take 31) 40),(12,fldO (plc.take 84))]
noncomputable def T6 (P:Params):BT:=L12 241 (fun b=>obAt [3,12] P (ov6 P) ob b 6) 1 0 6
noncomputable abbrev S6 (w:World) (os:OsState):SharedT:=⟨T6 w.params,241,life0,#[],⟨0,0,0,0⟩,484,os⟩
noncomputable def ov7 (P:Params):List (Nat×Obj):=[(3,mainD P (.str "ringloads.wishes" 557) ((ents P).take 43) 52),(12,fldO (plc.take 120))]
noncomputable def T7 (P:Params):BT:=L12 313 (fun b=>obAt [3,12] P (ov7 P) ob b 7) 1 0 7
noncomputable abbrev S7 (w:World) (os:OsState):SharedT:=⟨T7 w.params,313,life0,#[],⟨0,0,0,0⟩,582,os⟩
noncomputable def ov8 (P:Params):List (Nat×Obj):=[(3,mainD P (.str "ringloads.search" 659) ((ents P).take 59) 68),(12,fldO (plc.take 153))]
noncomputable def T8 (P:Params):BT:=L12 378 (fun b=>obAt [3,12] P (ov8 P) ob b 8) 1 0 8
noncomputable abbrev S8 (w:World) (os:OsState):SharedT:=⟨T8 w.params,378,life0,#[],⟨0,0,0,0⟩,681,os⟩
noncomputable def ov9 (P:Params):List (Nat×Obj):=[(3,mainD P (.str "law_ringloads_k92_whole_all_ways_walked" 715) ((ents P).take 70) 79),(12,fldO (plc.take 186))]
noncomputable def T9 (P:Params):BT:=L12 449 (fun b=>obAt [3,12] P (ov9 P) ob b 9) 1 0 9
noncomputable abbrev S9 (w:World) (os:OsState):SharedT:=⟨T9 w.params,449,life0,#[],⟨0,0,0,0⟩,789,os⟩
noncomputable def ov10 (P:Params):List (Nat×Obj):=[(3,mainD P (.str "law_ringloads_k92_whole_all_ways_walked" 715) ((ents P).take 79) 88),(12,fldO (plc.take 213))]
noncomputable def T10 (P:Params):BT:=L12 504 (fun b=>obAt [3,12] P (ov10 P) ob b 10) 1 0 10
noncomputable abbrev S10 (w:World) (os:OsState):SharedT:=⟨T10 w.params,504,life0,#[],⟨0,0,0,0⟩,874,os⟩
abbrev env:Env:={ scope:=pr.main.scope,locals:=mainNs,globals:=mainNs,cells:=[],code:=.ref 13,frame:=some 14 }
abbrev cE:Code:=.body (behindTheImports pr) env
abbrev B:List Frame:=[topFrame ⟨0,0,0,0⟩]
def sts1:List Stmt:=(pr.main.body.drop 0).take 10
theorem pc1 (w:World) (os:OsState):segRunT treeTable pr w 11 (some (.ref 6)) 1 237 (S0 w os) (piecesOf sts1 env cE ⟨0,0,0,0⟩ B)=some (.next,S1 w os,cE,⟨23,0,23,8⟩):=seg_by (by kernel_rfl)
def sts2:List Stmt:=(pr.main.body.drop 10).take 1
theorem pc2 (w:World) (os:OsState):segRunT treeTable pr w 11 (some (.ref 6)) 1 218 (S1 w os) (piecesOf sts2 env cE ⟨23,0,23,8⟩ B)=some (.next,S2 w os,cE,⟨24,0,27,39⟩):=seg_by (by kernel_rfl)
def sts3:List Stmt:=(pr.main.body.drop 11).take 1
theorem pc3 (w:World) (os:OsState):segRunT treeTable pr w 11 (some (.ref 6)) 1 214 (S2 w os) (piecesOf sts3 env cE ⟨24,0,27,39⟩ B)=some (.next,S3 w os,cE,⟨28,0,29,8⟩):=seg_by (by kernel_rfl)
def sts4:List Stmt:=(pr.main.body.drop 12).take 1
theorem pc4 (w:World) (os:OsState):segRunT treeTable pr w 11 (some (.ref 6)) 1 246 (S3 w os) (piecesOf sts4 env cE ⟨28,0,29,8⟩ B)=some (.next,S4 w os,cE,⟨30,0,34,28⟩):=seg_by (by kernel_rfl)
def sts5:List Stmt:=(pr.main.body.drop 13).take 8
theorem pc5 (w:World) (os:OsState):segRunT treeTable pr w 11 (some (.ref 6)) 1 386 (S4 w os) (piecesOf sts5 env cE ⟨30,0,34,28⟩ B)=some (.next,S5 w os,cE,⟨50,0,53,55⟩):=seg_by (by kernel_rfl)
def sts6:List Stmt:=(pr.main.body.drop 21).take 17
theorem pc6 (w:World) (os:OsState):segRunT treeTable pr w 11 (some (.ref 6)) 1 401 (S5 w os) (piecesOf sts6 env cE ⟨50,0,53,55⟩ B)=some (.next,S6 w os,cE,⟨93,0,98,33⟩):=seg_by (by kernel_rfl)
def sts7:List Stmt:=(pr.main.body.drop 38).take 15
theorem pc7 (w:World) (os:OsState):segRunT treeTable pr w 11 (some (.ref 6)) 1 372 (S6 w os) (piecesOf sts7 env cE ⟨93,0,98,33⟩ B)=some (.next,S7 w os,cE,⟨134,0,135,50⟩):=seg_by (by kernel_rfl)
def sts8:List Stmt:=(pr.main.body.drop 53).take 18
theorem pc8 (w:World) (os:OsState):segRunT treeTable pr w 11 (some (.ref 6)) 1 379 (S7 w os) (piecesOf sts8 env cE ⟨134,0,135,50⟩ B)=some (.next,S8 w os,cE,⟨201,0,215,51⟩):=seg_by (by kernel_rfl)
def sts9:List Stmt:=(pr.main.body.drop 71).take 13
theorem pc9 (w:World) (os:OsState):segRunT treeTable pr w 11 (some (.ref 6)) 1 359 (S8 w os) (piecesOf sts9 env cE ⟨201,0,215,51⟩ B)=some (.next,S9 w os,cE,⟨283,0,292,33⟩):=seg_by (by kernel_rfl)
def sts10:List Stmt:=(pr.main.body.drop 84).take 9
theorem pc10 (w:World) (os:OsState):segRunT treeTable pr w 11 (some (.ref 6)) 1 276 (S9 w os) (piecesOf sts10 env cE ⟨283,0,292,33⟩ B)=some (.next,S10 w os,cE,⟨347,0,355,54⟩):=seg_by (by kernel_rfl)
noncomputable abbrev H1 (P:Params):Heap:=absHeap (T10 P) 504 life0
theorem pre (w:World) (os:OsState):topGo treeTable pr w 11 (some (.ref 6)) 12 ⟨boot_heap w.params,#[],boot_drawn,boot_toks,os⟩ (topStub pr)=some (⟨⟨⟨bootL w.params⟩,life0⟩,#[],⟨0,0,0,0⟩,187,os⟩,⟨denote treeTable cE,cE,⟨0,0,0,0⟩,B⟩):=by rw [den_tw]; exact go_by (by kernel_rfl)
theorem block (w:World) (os:OsState):segRun treeTable pr w 11 (some (.ref 6)) 1 1 ⟨⟨⟨bootL w.params⟩,life0⟩,#[],⟨0,0,0,0⟩,187,os⟩ (blockOf (behindTheImports pr) env cE ⟨0,0,0,0⟩ B)=some (.next,(S0 w os).abs,cE,⟨0,0,0,0⟩):=by kernel_rfl
theorem fin (w:World) (os:OsState):topRun treeTable pr w 11 (some (.ref 6)) 2 (S10 w os).abs ⟨doneF .next,cE,⟨347,0,355,54⟩,B⟩=some ⟨H1 w.params,#[],⟨0,0,0,0⟩,874,os⟩:=top_by (by kernel_rfl)
theorem body_eq:behindTheImports pr=(sts1++(sts2++(sts3++(sts4++(sts5++(sts6++(sts7++(sts8++(sts9++(sts10++[])))))))))):=by kernel_rfl
theorem run (w:World) (os:OsState):topRun treeTable pr w 11 (some (.ref 6)) (12+(1+(237+(218+(214+(246+(386+(401+(372+(379+(359+(276+2)))))))))))) ⟨boot_heap w.params,#[],boot_drawn,boot_toks,os⟩ (topStub pr)=some ⟨H1 w.params,#[],⟨0,0,0,0⟩,874,os⟩ :=
 go_top (pre w os) (piece_block (block w os) (rest_eq body_eq (piece_app (segRun_of (pc1 w os)) (piece_app (segRun_of (pc2 w os)) (piece_app (segRun_of (pc3 w os)) (piece_app (segRun_of (pc4 w os)) (piece_app (segRun_of (pc5 w os)) (piece_app (segRun_of (pc6 w os)) (piece_app (segRun_of (pc7 w os)) (piece_app (segRun_of (pc8 w os)) (piece_app (segRun_of (pc9 w os)) (piece_app (segRun_of (pc10 w os)) (piece_nil (fin w os))))))))))))))
abbrev q:Program:=view pr [92]
def loose:List Str:=(["greatest_shared","least_common","is_whole","is_number_below","are_two_wholes","is_ratio","is_told_as","LoadError","NoNumber","NoTree","TooMany","NOUGHT","lowest","plus","minus","times","over","under","sum_of","is_cut","is_within","parts_places","all_cuts","weighed","common_bottom","in_units","ON","BACK","is_way","other_way","is_over","sent_over","load_of","loads_of","strains_of","top_of","are_ways","sent_by","top_by","are_ways_with_top","turned_by","is_too_much","are_too_many","broken_wish","CUT","TURNED","SPLIT","MOST_WALKED","is_split","look_at_tree","is_tree","branch_of","can_stand","is_too_full","times_over","MOST_SEARCHED","ways_for","bounds_of","searched","reason_against","wish_for_less","best_ways","lets_best","_law_begun","_law_take","_law_low","_law_amount","_law_names","_law_rooms","_law_ends","_law_ring","_law_all_ways","_law_ways","_law_lets","_law_under","_law_wish","_law_right","_law_best_right"]:List String).map Str.ofString
noncomputable def Kf (P:Params):Frag:=(3,((ov10 P).getD 0 (0,default)).2)::[(20,(f1 P).getD 5 default),(21,(f1 P).getD 6 default),(27,(f2 P).getD 5 default),(28,(f2 P).getD 6 default),(34,(f4 P).getD 5 default),(35,(f4 P).getD 6 default),(41,(f5 P).getD 5 default),(42,(f5 P).getD 6 default),(48,(f6 P).getD 5 default),(49,(f6 P).getD 6 default),(55,(f7 P).getD 5 default),(56,(f7 P).getD 6 default),(62,(f8 P).getD 5 default),(63,(f8 P).getD 6 default),(64,(f10 P).getD 0 default),(65,(f10 P).getD 1 default),(66,(f10 P).getD 2 default),(67,(f10 P).getD 3 default),(68,(f10 P).getD 4 default),(69,(f10 P).getD 5 default),(70,(f10 P).getD 6 default),(71,(f10 P).getD 7 default),(72,(f10 P).getD 8 default),(73,(f10 P).getD 9 default),(74,(f10 P).getD 10 default),(75,(f10 P).getD 11 default),(76,(f10 P).getD 12 default),(77,(f10 P).getD 13 default),(78,(f10 P).getD 14 default),(79,(f10 P).getD 15 default),(80,(f10 P).getD 16 default),(81,(f10 P).getD 17 default),(82,(f10 P).getD 18 default),(83,(f10 P).getD 19 default),(84,(f11 P).getD 0 default),(85,(f11 P).getD 1 default),(86,(f11 P).getD 2 default),(87,(f11 P).getD 3 default),(88,(f11 P).getD 4 default),(89,(f11 P).getD 5 default),(90,(f11 P).getD 6 default),(91,(f11 P).getD 7 default),(92,(f11 P).getD 8 default),(93,(f11 P).getD 9 default),(94,(f11 P).getD 10 default),(95,(f11 P).getD 11 default),(96,(f12 P).getD 0 default),(97,(f12 P).getD 1 default),(98,(f12 P).getD 2 default),(99,(f12 P).getD 3 default),(100,(f12 P).getD 4 default),(101,(f12 P).getD 5 default),(102,(f12 P).getD 6 default),(103,(f12 P).getD 7 default),(104,(f12 P).getD 8 default),(105,(f12 P).getD 9 default),(106,(f12 P).getD 10 default),(107,(f12 P).getD 11 default),(108,(f12 P).getD 12 default),(109,(f12 P).getD 13 default),(110,(f12 P).getD 14 default),(111,(f12 P).getD 15 default),(112,(f12 P).getD 16 default),(113,(f12 P).getD 17 default),(114,(f12 P).getD 18 default),(115,(f13 P).getD 0 default),(116,(f13 P).getD 1 default),(117,(f13 P).getD 2 default),(118,(f13 P).getD 3 default),(119,(f13 P).getD 4 default),(120,(f13 P).getD 5 default),(121,(f13 P).getD 6 default),(122,(f13 P).getD 7 default),(123,(f13 P).getD 8 default),(124,(f13 P).getD 9 default),(125,(f13 P).getD 10 default),(126,(f13 P).getD 11 default),(127,(f15 P).getD 0 default),(133,(f16 P).getD 5 default),(134,(f16 P).getD 6 default),(140,(f17 P).getD 5 default),(141,(f17 P).getD 6 default),(147,(f18 P).getD 5 default),(148,(f18 P).getD 6 default),(154,(f19 P).getD 5 default),(155,(f19 P).getD 6 default),(161,(f20 P).getD 5 default),(162,(f20 P).getD 6 default),(168,(f21 P).getD 5 default),(169,(f21 P).getD 6 default),(175,(f22 P).getD 5 default),(176,(f22 P).getD 6 default),(182,(f24 P).getD 5 default),(183,(f24 P).getD 6 default),(189,(f25 P).getD 5 default),(190,(f25 P).getD 6 default),(196,(f26 P).getD 5 default),(197,(f26 P).getD 6 default),(201,(f27 P).getD 3 default),(202,(f27 P).getD 4 default),(206,(f29 P).getD 3 default),(207,(f29 P).getD 4 default),(213,(f30 P).getD 5 default),(214,(f30 P).getD 6 default),(218,(f31 P).getD 3 default),(219,(f31 P).getD 4 default),(225,(f35 P).getD 5 default),(226,(f35 P).getD 6 default),(232,(f36 P).getD 5 default),(233,(f36 P).getD 6 default),(239,(f37 P).getD 5 default),(240,(f37 P).getD 6 default),(246,(f39 P).getD 5 default),(247,(f39 P).getD 6 default),(251,(f40 P).getD 3 default),(252,(f40 P).getD 4 default),(256,(f41 P).getD 3 default),(257,(f41 P).getD 4 default),(261,(f42 P).getD 3 default),(262,(f42 P).getD 4 default),(268,(f43 P).getD 5 default),(269,(f43 P).getD 6 default),(273,(f45 P).getD 3 default),(274,(f45 P).getD 4 default),(278,(f46 P).getD 3 default),(279,(f46 P).getD 4 default),(285,(f47 P).getD 5 default),(286,(f47 P).getD 6 default),(292,(f48 P).getD 5 default),(293,(f48 P).getD 6 default),(297,(f50 P).getD 3 default),(298,(f50 P).getD 4 default),(304,(f51 P).getD 5 default),(305,(f51 P).getD 6 default),(311,(f52 P).getD 5 default),(312,(f52 P).getD 6 default),(318,(f53 P).getD 5 default),(319,(f53 P).getD 6 default),(325,(f59 P).getD 5 default),(326,(f59 P).getD 6 default),(330,(f60 P).getD 3 default),(331,(f60 P).getD 4 default),(337,(f61 P).getD 5 default),(338,(f61 P).getD 6 default),(344,(f62 P).getD 5 default),(345,(f62 P).getD 6 default),(351,(f63 P).getD 5 default),(352,(f63 P).getD 6 default),(356,(f64 P).getD 3 default),(357,(f64 P).getD 4 default),(361,(f65 P).getD 3 default),(362,(f65 P).getD 4 default),(366,(f68 P).getD 3 default),(367,(f68 P).getD 4 default),(371,(f69 P).getD 3 default),(372,(f69 P).getD 4 default),(376,(f70 P).getD 3 default),(377,(f70 P).getD 4 default),(383,(f71 P).getD 5 default),(384,(f71 P).getD 6 default),(388,(f73 P).getD 3 default),(389,(f73 P).getD 4 default),(393,(f74 P).getD 3 default),(394,(f74 P).getD 4 default),(400,(f75 P).getD 5 default),(401,(f75 P).getD 6 default),(407,(f77 P).getD 5 default),(408,(f77 P).getD 6 default),(414,(f78 P).getD 5 default),(415,(f78 P).getD 6 default),(421,(f79 P).getD 5 default),(422,(f79 P).getD 6 default),(428,(f80 P).getD 5 default),(429,(f80 P).getD 6 default),(433,(f81 P).getD 3 default),(434,(f81 P).getD 4 default),(440,(f82 P).getD 5 default),(441,(f82 P).getD 6 default),(447,(f83 P).getD 5 default),(448,(f83 P).getD 6 default),(454,(f84 P).getD 5 default),(455,(f84 P).getD 6 default),(459,(f85 P).getD 3 default),(460,(f85 P).getD 4 default),(464,(f86 P).getD 3 default),(465,(f86 P).getD 4 default),(471,(f87 P).getD 5 default),(472,(f87 P).getD 6 default),(478,(f88 P).getD 5 default),(479,(f88 P).getD 6 default),(485,(f89 P).getD 5 default),(486,(f89 P).getD 6 default),(490,(f90 P).getD 3 default),(491,(f90 P).getD 4 default),(497,(f91 P).getD 5 default),(498,(f91 P).getD 6 default),(502,(f92 P).getD 3 default),(503,(f92 P).getD 4 default)]
abbrev as:List Addr:=[3,20,21,27,28,34,35,41,42,48,49,55,56,62,63,64,65,66,67,68,69,70,71,72,73,74,75,76,77,78,79,80,81,82,83,84,85,86,87,88,89,90,91,92,93,94,95,96,97,98,99,100,101,102,103,104,105,106,107,108,109,110,111,112,113,114,115,116,117,118,119,120,121,122,123,124,125,126,127,133,134,140,141,147,148,154,155,161,162,168,169,175,176,182,183,189,190,196,197,201,202,206,207,213,214,218,219,225,226,232,233,239,240,246,247,251,252,256,257,261,262,268,269,273,274,278,279,285,286,292,293,297,298,304,305,311,312,318,319,325,326,330,331,337,338,344,345,351,352,356,357,361,362,366,367,371,372,376,377,383,384,388,389,393,394,400,401,407,408,414,415,421,422,428,429,433,434,440,441,447,448,454,455,459,460,464,465,471,472,478,479,485,486,490,491,497,498,502,503]
noncomputable abbrev Hk:Hook:=kHook Kf as (fun _=>by kernel_rfl)
abbrev Xt:Shared→Bool:=fun s=>xlAt q [] s && recOk (RowW.records PySem.Challenge.rw_ringloads_k92_whole_all_ways_walked.row.toRowW) s
theorem size (w:World):((boot_heap w.params).isNs mainGlobals && (#[]:Array GenState).size == 0,(boot_heap w.params).objs.size,(boot_heap w.params).nsMap mainGlobals "__annotations__")=(true,11,some (.ref 6)):=by kernel_rfl
theorem look1 (w:World) (os:OsState):(staticsOk (importedModules pr.main.body) (boot_heap w.params) (H1 w.params) && namesBound pr (H1 w.params) && gensDone ⟨H1 w.params,#[],⟨0,0,0,0⟩,874,os⟩ && laidKept (boot_heap w.params) (H1 w.params))=true:=by kernel_rfl
theorem look2 (w:World) (os:OsState):openSeen q loose (importedModules pr.main.body) Xt true ⟨H1 w.params,#[],⟨0,0,0,0⟩,874,os⟩=openGood q loose:=by rw [Fast.te4187177175401517315]; kernel_rfl
theorem look3 (w:World) (os:OsState):Hk.obs ⟨H1 w.params,#[],⟨0,0,0,0⟩,874,os⟩=Hk.val w:=by kernel_rfl
theorem opened:opening pr=plainProg pr.main.scope.names:=by kernel_rfl
theorem left:LeftO pr q loose Xt Hk.obs Hk.val 6856:=LeftO.of_pieces (M:=(12+(1+(237+(218+(214+(246+(386+(401+(372+(379+(359+(276+2))))))))))))) (boot_open opened (by decide) (fun s=>by kernel_rfl)) size run (by decide +kernel) (fun w=>funext fun os=>looks_pair (look1 w os) (looks_pair (look2 w os) (look3 w os)))
end Hd
namespace My
open PySem L2
local macro_rules | `(tactic| walk_at "w")=>`(tactic| try simp only [wDict,wSrcS,signsOf,varW_d,varW_own,varW_bx,movW_d,movW_own,movW_bx,selW_own,selW_d,selW_bx,pkW_own,pkW_bx,pkW_d,pkB_own,pkB_bx,pkB_d,fzW_own,fzW_d,wTupB,wLstB,wAsgB,tgNamesL,wAppIn,wClearIn,wPopIn,inV',isBx,toDB_t,toDB_o,eraK_nil,eraK_cons,noLr_un,noLr_d,noLr_own,noLr_bx,noLrs_nil,noLrs_cons,flatL_bx,wFzS,opEqS,opNeS,wRep,wChainN,wLinks,opLe2,wRng3,wSeq,wIf,aN,wBin,wUn,wVar,wMove,wC,wSet,wRet,wRetN,wDrop,bt,av,a8,aL,aVal,aVar,aNil,toD,toDs,eU,isBl,wTup,wLst,wNot,wAnd,wOr,wAndV,wOrV,wNotV,wIfE,wFrz,dU,wIxV,wSetV,wLenV,wApp,wClear,wPeek,wPeekB,noL,noLs,fC,flatL_un,flatL_d,flatL_own,List.all_cons,List.all_nil,Bool.and_true,Bool.true_and,wExt,wPop,ownV,wPar,wAsgT,wAsgL,tgLst,wFor,wRng1,wRng2,wSrc,wEnum,wZip,zipK,wZipS,zipE,seqK,wZip3,ds3,zipE3,wLZip,wRevS,wJoin,wChain,itemsOf_lst,itemsOf_tup,itemsOf_fr,aK,tgTup_tup,tgTup_ask,tgTup_fr,ej,bI,opAddT,opIsB,opNotB,opSub,aV,opDiv,eW,opPow,opLt,opLe,opGt,opGe,opEq,opNe,opNeg,opIx_lst,opIx_tup,opIx_str,ix_ring0,ix_ring1,ix_ask0,ix_ask1,ix_ask2,ix_ask3,ix_fr0,ix_fr1,ix_cut0,ix_cut1,ix_g0,ix_g1,noL_cut,shape_cut,eqD_cut,eqD_fr,shape_fr,noL_fr,noLs_frs,noLs_cuts,noLs_ints,shape_on,shape_back,shape_way,way_on,way_back,List.length_map,rooms_len,opLen_lst,opLen_tup,opLen_str,opLen_fr,opLen_ring,opLen_ask,isTy_tup_fr,isTy_lst_fr,isTy_int_fr,isTy_bool_fr,isTy_str_fr,isTy_tup_ring,noLs_frL,frL_len,opAbs,opMin,opMax,opInt,opList,opTuple,opIsT,opIsT2,isTy_non,isTy_bl,isTy_int,isTy_str,isTy_tup,isTy_lst,isTy_tup_g,isTy_tup_cut,isTy_tup_ask,opLen_cut,opLen_g,opIsN,opNotN,opInF,beq_self_eq_true,String.reduceBEq,String.reduceEq,reduceCtorEq,wSl2,wPart,wRev,cb,bN,eZ,aW,shapeD_int,shapeD_bl,shapeD_non,eqD_int,eqD_str,eqD_bl,List.getElem?_cons_zero,List.getElem?_cons_succ,List.set_cons_zero,List.set_cons_succ,List.cons_append,List.nil_append,List.replicate_succ,List.replicate_zero,List.map_cons,List.map_nil,List.drop_succ_cons,List.drop_zero,Option.getD_some,true_and,decide_eq_true_eq,Bool.not_eq_true',decide_eq_false_iff_not,ite_true,ite_false,Bool.false_eq_true,Bool.true_eq_false,if_true,if_false,List.length_cons,List.length_nil,Nat.reduceAdd,Nat.reduceSub,atI_0,atI_1,atI_2,atI_3,atI_4,ix30,ix31,ix32,Option.some.injEq,exists_eq_left',exists_eq_left])
local macro_rules | `(tactic| walk_at "o")=>`(tactic| first | exact Or.inl rfl | exact Or.inr rfl)
abbrev cz:Stmt:=Hd.top 1
abbrev N_greatest_shared:List Str:=["one","other","rest"]
abbrev eA:Stmt:=Hd.top 2
abbrev N_least_common:List Str:=["one","other"]
abbrev s_is_whole:Stmt:=Hd.top 4
abbrev N_is_whole:List Str:=["thing"]
abbrev cA:Stmt:=Hd.top 5
abbrev N_is_number_below:List Str:=["thing","many"]
abbrev cX:Stmt:=Hd.top 6
abbrev N_are_two_wholes:List Str:=["thing"]
abbrev s_is_ratio:Stmt:=Hd.top 7
abbrev N_is_ratio:List Str:=["thing"]
abbrev s_is_told_as:Stmt:=Hd.top 8
abbrev N_is_told_as:List Str:=["thing","word","length"]
abbrev s_lowest:Stmt:=Hd.top 16
abbrev N_lowest:List Str:=["top","bottom","shared"]
abbrev s_plus:Stmt:=Hd.top 17
abbrev N_plus:List Str:=["one","other"]
abbrev s_minus:Stmt:=Hd.top 18
abbrev N_minus:List Str:=["one","other"]
abbrev s_times:Stmt:=Hd.top 19
abbrev N_times:List Str:=["one","other"]
abbrev s_over:Stmt:=Hd.top 20
abbrev N_over:List Str:=["one","other"]
abbrev s_under:Stmt:=Hd.top 21
abbrev N_under:List Str:=["one","other"]
abbrev s_sum_of:Stmt:=Hd.top 22
abbrev N_sum_of:List Str:=["some","whole","one"]
abbrev s_is_cut:Stmt:=Hd.top 24
abbrev N_is_cut:List Str:=["ring","thing"]
abbrev s_is_within:Stmt:=Hd.top 25
abbrev N_is_within:List Str:=["cut","place"]
abbrev eB:Stmt:=Hd.top 26
abbrev N_parts_places:List Str:=["cut","one","other"]
abbrev s_all_cuts:Stmt:=Hd.top 27
abbrev N_all_cuts:List Str:=["ring","cuts","g"]
abbrev dB:Stmt:=Hd.top 30
abbrev N_common_bottom:List Str:=["some","bottom","one"]
abbrev s_in_units:Stmt:=Hd.top 31
abbrev N_in_units:List Str:=["some","units"]
abbrev s_weighed:Stmt:=Hd.top 29
abbrev N_weighed:List Str:=["ring","top","sizes","most","units"]
abbrev s_is_way:Stmt:=Hd.top 35
abbrev N_is_way:List Str:=["thing"]
abbrev s_other_way:Stmt:=Hd.top 36
abbrev N_other_way:List Str:=["way"]
abbrev s_is_over:Stmt:=Hd.top 37
abbrev N_is_over:List Str:=["ring","k","way","tie","places","one","other","lies_on"]
abbrev s_sent_over:Stmt:=Hd.top 39
abbrev N_sent_over:List Str:=["ring","sending","k","tie"]
abbrev s_load_of:Stmt:=Hd.top 40
abbrev N_load_of:List Str:=["ring","sending","tie"]
abbrev s_loads_of:Stmt:=Hd.top 41
abbrev N_loads_of:List Str:=["ring","sending"]
abbrev dY:Stmt:=Hd.top 42
abbrev N_strains_of:List Str:=["ring","sending"]
abbrev s_top_of:Stmt:=Hd.top 43
abbrev N_top_of:List Str:=["ring","sending","strains","top","tie","strain"]
abbrev s_are_ways:Stmt:=Hd.top 45
abbrev N_are_ways:List Str:=["ring","thing"]
abbrev s_sent_by:Stmt:=Hd.top 46
abbrev N_sent_by:List Str:=["ring","ways"]
abbrev s_top_by:Stmt:=Hd.top 47
abbrev N_top_by:List Str:=["ring","ways"]
abbrev b7:Stmt:=Hd.top 48
abbrev N_are_ways_with_top:List Str:=["ring","thing","top"]
abbrev fH:Stmt:=Hd.top 50
abbrev N_turned_by:List Str:=["elder","ways","pairs"]
abbrev fI:Stmt:=Hd.top 51
abbrev N_is_too_much:List Str:=["wish","load","bound"]
abbrev eD:Stmt:=Hd.top 52
abbrev N_are_too_many:List Str:=["wish","ways"]
abbrev fJ:Stmt:=Hd.top 53
abbrev N_broken_wish:List Str:=["ring","wish","ways","top","tie","strain"]
abbrev s_is_split:Stmt:=Hd.top 59
abbrev N_is_split:List Str:=["thing"]
abbrev dZ:Stmt:=Hd.top 65
abbrev N_times_over:List Str:=["ring","k","way","cut"]
abbrev de:Stmt:=Hd.top 64
abbrev N_is_too_full:List Str:=["ring","wish","scale","fixed","cut","most","load"]
abbrev s_can_stand:Stmt:=Hd.top 63
abbrev N_can_stand:List Str:=["ring","wish","scale","fixed","thing"]
abbrev s_branch_of:Stmt:=Hd.top 62
abbrev N_branch_of:List Str:=["here","way","tree","fixed"]
abbrev cK:Stmt:=Hd.top 60
abbrev N_look_at_tree:List Str:=["ring","wish","thing","scale","ahead","walked","here"]
abbrev s_is_tree:Stmt:=Hd.top 61
abbrev N_is_tree:List Str:=["ring","wish","thing"]
abbrev cY:Stmt:=Hd.top 71
abbrev N_reason_against:List Str:=["wish","bounds","fixed","loads","cut","bound"]
abbrev s_searched:Stmt:=Hd.top 70
abbrev N_searched:List Str:=["ring","wish","sizes","bounds","fixed","loads","k","reason","trees","way","fuller","found"]
abbrev dC:Stmt:=Hd.top 69
abbrev N_bounds_of:List Str:=["ring","scale","most","bounds","ask","size"]
abbrev s_ways_for:Stmt:=Hd.top 68
abbrev N_ways_for:List Str:=["ring","wish","scale"]
abbrev cg:Stmt:=Hd.top 73
abbrev N_wish_for_less:List Str:=["ring","top"]
abbrev fK:Stmt:=Hd.top 74
abbrev N_best_ways:List Str:=["ring","ways","top","found"]
abbrev s_lets_best:Stmt:=Hd.top 75
abbrev N_lets_best:List Str:=["ring","thing"]
abbrev s__law_begun:Stmt:=Hd.top 77
abbrev N__law_begun:List Str:=["_law_script","_law_k","_law_cell"]
abbrev s__law_take:Stmt:=Hd.top 78
abbrev N__law_take:List Str:=["_law_state","_law_many","_law_digit","_law_drawn","_law_turn"]
abbrev cR:Stmt:=Hd.top 81
abbrev N__law_names:List Str:=["_law_state","_law_many","_law_letters","_law_base","_law_at","_law_turn"]
abbrev s__law_low:Stmt:=Hd.top 79
abbrev N__law_low:List Str:=["_law_top","_law_bottom","_law_one","_law_share"]
abbrev fL:Stmt:=Hd.top 80
abbrev N__law_amount:List Str:=["_law_state","_law_least","_law_kind","_law_bottom","_law_top"]
abbrev s__law_rooms:Stmt:=Hd.top 82
abbrev N__law_rooms:List Str:=["_law_state","_law_ties","_law_kind","_law_alike","_law_one","_law_rooms_here","_law_more"]
abbrev s__law_ends:Stmt:=Hd.top 83
abbrev N__law_ends:List Str:=["_law_state","_law_shape","_law_places","_law_k","_law_one","_law_other"]
abbrev s__law_ring:Stmt:=Hd.top 84
abbrev N__law_ring:List Str:=["_law_script","_law_at","_law_most","_law_count","_law_state","_law_places","_law_many","_law_kinds","_law_shape","_law_names_here","_law_rooms_here","_law_asks","_law_k","_law_one","_law_other"]
abbrev bF:Stmt:=Hd.top 85
abbrev dD:List Str:=["_law_many","_law_found","_law_k"]
abbrev s__law_under:Stmt:=Hd.top 88
abbrev N__law_under:List Str:=["_law_one","_law_other"]
abbrev cB:Stmt:=Hd.top 91
abbrev N__law_best_right:List Str:=["_law_ring_here","_law_every","_law_top","_law_ways_here","_law_tree","_law_other","_law_there"]
abbrev s__law_lets:Stmt:=Hd.top 87
abbrev N__law_lets:List Str:=["_law_ring_here","_law_wish_here","_law_tree"]
abbrev d5:Stmt:=Hd.top 90
abbrev N__law_right:List Str:=["_law_ring_here","_law_wish_here","_law_every","_law_word","_law_found","_law_keeps","_law_again"]
abbrev fM:Stmt:=Hd.top 86
abbrev N__law_ways:List Str:=["_law_state","_law_many"]
abbrev s__law_wish:Stmt:=Hd.top 89
abbrev N__law_wish:List Str:=["_law_state","_law_ring_here","_law_elder","_law_top"]
abbrev s_law:Stmt:=Hd.top 92
abbrev N_law:List Str:=["_law_script","_law_ring_here","_law_every","_law_state","_law_elder","_law_k"]
def a7:FS:=fun ls post=>∃ a b:Int,ls=[.d (.int a),.d (.int b)]∧post (.d (.int (Int.gcd a b))) ls
def b_greatest_shared_0:W Fl:=(wSeq (wSet 2 (wBin eW (wVar 0) (wVar 1)))
  (wSeq (wSet 0 (wVar 1))
  (wSet 1 (wVar 2))))
def cC:W Fl:=(wSeq (wWhile (aN (wBin opNe (wVar 1) (wC (.int 0)))) b_greatest_shared_0)
  (wRet (aL opAbs (aVal (wVar 0) aNil))))
theorem sat_greatest_shared:∀ ls post,ls.length=2→a7 ls post→cC (ls++List.replicate 1 .un) (aE ls post):=by
 rintro ls post - ⟨a,b,rfl,h⟩
 unfold cC
 walk_at "w"
 refine ⟨fun n ρ=>∃ x y r,ρ=[.d (.int x),.d (.int y),r]∧Int.gcd x y=Int.gcd a b∧n=y.natAbs,⟨_,a,b,_,rfl,rfl,rfl⟩,?_⟩
 rintro n ρ ⟨x,y,r,rfl,hg,rfl⟩
 walk_at "w"
 split
 ·
  rename_i hy
  have hy:y≠0:=by simpa using hy
  exact ⟨hy,_,natAbs_fmod_lt x hy,y,x.fmod y,_,rfl,by rw [gcd_fmod]; exact hg,rfl⟩
 ·
  rename_i hy
  have hy:y=0:=by simpa using hy
  subst hy
  refine ⟨_,ag (ag az),?_⟩
  have e:(if x < 0 then -x else x)=((Int.gcd a b:Nat):Int):=by rw [← hg,Int.gcd_zero_right]; split <;> omega
  rw [e]
  exact h
def dE:FS:=fun ls post=>∃ a b:Nat,ls=[.d (.int a),.d (.int b)]∧0 < b∧a < 2 ^ 4400∧b < 2 ^ 4400∧post (.d (.int (Nat.lcm a b))) ls
def eE:W Fl:=(wRet (wBin aV (wBin opDiv (wVar 0) (av a7 (aVal (wVar 0) (aVal (wVar 1) aNil)))) (wVar 1)))
theorem sat_least_common:∀ ls post,ls.length=2→dE ls post→eE (ls++List.replicate 0 .un) (aE ls post):=by
 rintro ls post - ⟨a,b,rfl,hb,ha,hb2,h⟩
 unfold eE
 walk_at "w"
 refine ⟨_,_,rfl,?_⟩
 walk_at "w"
 have g0:0 < Int.gcd (a:Int) (b:Int):=Nat.gcd_pos_of_pos_right _ hb
 have g1:Int.gcd (a:Int) (b:Int)≤b:=Nat.gcd_le_right _ hb
 have e1:((a:Int).fdiv (Int.gcd (a:Int) (b:Int):Int)).natAbs≤a:=by
  rw [Int.fdiv_eq_ediv_of_nonneg _ (by omega)]
  show (((a:Int) / ((Nat.gcd a b:Nat):Int))).natAbs≤a
  rw [← Int.natCast_ediv,Int.natAbs_natCast]
  exact Nat.div_le_self _ _
 refine ⟨by omega,?_,?_,?_,?_⟩
 ·
  rw [Int.natAbs_natCast]
  exact Nat.lt_of_le_of_lt g1 (Nat.lt_of_lt_of_le hb2 (Nat.pow_le_pow_right (by decide) (by decide)))
 ·
  exact cJ (Nat.lt_of_le_of_lt e1 ha) (by decide)
 ·
  exact cJ (n:=4400) (by rw [Int.natAbs_natCast]; exact hb2) (by decide)
 ·
  rw [lcm_int hb]
  exact ⟨_,ag (ag az),h⟩
def dF:FS:=fun ls post=>(∃ i:Int,ls=[.d (.int i)]∧post (.d (.bl true)) ls)∨∃ d:D,ls=[.d d]∧(∀ i,d≠.int i)∧post (.d (.bl false)) ls
def m_is_whole:W Fl:=(wRet (wAndV (wUn (opIsT "int") (wVar 0)) (wNotV (aN (wUn (opIsT "bool") (wVar 0))))))
theorem sat_is_whole:∀ ls post,ls.length=1→dF ls post→m_is_whole (ls++List.replicate 0 .un) (aE ls post):=by
 rintro ls post - (⟨i,rfl,h⟩ | ⟨d,rfl,hd,h⟩)
 ·
  unfold m_is_whole
  walk_at "w"
  exact ⟨_,ag az,h⟩
 ·
  unfold m_is_whole
  cases d with
  | int i=>exact absurd rfl (hd i)
  | _=>walk_at "w"; exact ⟨_,ag az,h⟩
def ci:FS:=fun ls post=>∃ (i n:Int),ls=[.d (.int i),.d (.int n)]∧post (.d (.bl (decide (0≤i∧i < n)))) ls
def cD:W Fl:=(wRet (wAndV (av dF (aVal (wVar 0) aNil)) (wChain opLe opLt (wC (.int 0)) (wVar 0) (wVar 1))))
theorem sat_is_number_below:∀ ls post,ls.length=2→ci ls post→cD (ls++List.replicate 0 .un) (aE ls post):=by
 rintro ls post - ⟨i,n,rfl,h⟩
 unfold cD
 walk_at "w"
 refine .inl ⟨i,rfl,?_⟩
 walk_at "w"
 by_cases c:0≤i
 ·
  rw [if_pos c]
  have e:decide (0≤i∧i < n)=decide (i < n):=by rw [decide_eq_decide]; omega
  rw [e] at h
  exact ⟨_,ag (ag az),h⟩
 ·
  rw [if_neg c]
  have e:decide (0≤i∧i < n)=false:=decide_eq_false (by omega)
  rw [e] at h
  exact ⟨_,ag (ag az),h⟩
/-- a tuple of two whole numbers -/
def twoB:D→Bool
 | .tup [.int _,.int _]=>true
 | _=>false
theorem twoB_is {d:D} (h:twoB d=true):∃ i j,d=.tup [.int i,.int j]:=by
 unfold twoB at h
 split at h
 ·
  exact ⟨_,_,rfl⟩
 ·
  cases h
theorem two_cases (d:D):(∃ i j,d=.tup [.int i,.int j])∨(∀ i j,d≠.tup [.int i,.int j]):=by
 cases h:twoB d with
 | true=>exact .inl (twoB_is h)
 | false=>exact .inr fun i j e=>by subst e; cases h
def bJ:FS:=fun ls post=>(∃ i j:Int,ls=[.d (.tup [.int i,.int j])]∧post (.d (.bl true)) ls)∨∃ d:D,ls=[.d d]∧(∀ i j,d≠.tup [.int i,.int j])∧post (.d (.bl false)) ls
def bV:W Fl:=(wRet (wAndV (wUn (opIsT "tuple") (wVar 0)) (wAndV (wBin opEq (aL bA (aVal (wVar 0) aNil)) (wC (.int 2))) (wAndV (av dF (aVal (wBin opIx (wVar 0) (wC (.int 0))) aNil)) (av dF (aVal (wBin opIx (wVar 0) (wC (.int 1))) aNil))))))
theorem sat_are_two_wholes:∀ ls post,ls.length=1→bJ ls post→bV (ls++List.replicate 0 .un) (aE ls post):=by
 rintro ls post - (⟨i,j,rfl,h⟩ | ⟨d,rfl,hd,h⟩)
 ·
  unfold bV
  walk_at "w"
  refine .inl ⟨_,rfl,?_⟩
  walk_at "w"
  refine .inl ⟨_,rfl,?_⟩
  walk_at "w"
  exact ⟨_,ag az,h⟩
 ·
  unfold bV
  have fin:∀ b:Bool,b=false→aE [.d d] post (.rt (.d (.bl b))) [.d d]:=fun b hb=>by subst hb; exact ⟨_,ag az,h⟩
  cases d with
  | tup xs =>
   match xs,hd with
   | [x,y],hd =>
    walk_at "w"
    have wh:∀ z:D,(∃ i,z=.int i)∨(∀ i,z≠.int i):=fun z=>by cases z <;> simp
    rcases wh x with ⟨i,rfl⟩ | hx
    ·
     refine .inl ⟨_,rfl,?_⟩
     walk_at "w"
     rcases wh y with ⟨j,rfl⟩ | hy
     ·
      exact absurd rfl (hd i j)
     ·
      refine .inr ⟨_,rfl,hy,?_⟩
      walk_at "w"
      exact fin _ rfl
    ·
     refine .inr ⟨_,rfl,hx,?_⟩
     walk_at "w"
     exact fin _ rfl
   | [],_=>walk_at "w"; exact fin _ rfl
   | [x],_=>walk_at "w"; exact fin _ rfl
   | x::y::z::r,_ =>
    walk_at "w"
    have e:¬ (((r.length+1+1+1:Nat):Int)=2):=by omega
    simp only [e,decide_false]
    exact fin _ rfl
  | _=>walk_at "w"; exact fin _ rfl
def fs_is_ratio:FS:=fun ls post=>∃ d:D,ls=[.d d]∧post (.d (.bl (ratB d))) ls
def m_is_ratio:W Fl:=(wRet (wAndV (av bJ (aVal (wVar 0) aNil)) (wAndV (wBin opGe (wBin opIx (wVar 0) (wC (.int 1))) (wC (.int 1))) (wBin opEq (av a7 (aVal (wBin opIx (wVar 0) (wC (.int 0))) (aVal (wBin opIx (wVar 0) (wC (.int 1))) aNil))) (wC (.int 1))))))
theorem sat_is_ratio:∀ ls post,ls.length=1→fs_is_ratio ls post→m_is_ratio (ls++List.replicate 0 .un) (aE ls post):=by
 rintro ls post - ⟨d,rfl,h⟩
 by_cases hd:∃ i j,d=.tup [.int i,.int j]
 ·
  obtain ⟨i,j,rfl⟩:=hd
  unfold m_is_ratio
  walk_at "w"
  refine .inl ⟨_,_,rfl,?_⟩
  walk_at "w"
  have e:ratB (.tup [.int i,.int j])=(decide (1≤j) && decide ((Int.gcd i j:Int)=1)):=rfl
  rw [e] at h
  split
  ·
   rename_i hj
   refine ⟨_,_,rfl,?_⟩
   walk_at "w"
   have hj':(1:Int)≤j:=hj
   rw [decide_eq_true hj',Bool.true_and] at h
   exact ⟨_,ag az,h⟩
  ·
   rename_i hj
   have hj':¬ (1:Int)≤j:=hj
   rw [decide_eq_false hj',Bool.false_and] at h
   exact ⟨_,ag az,h⟩
 ·
  have hn:∀ i j,d≠.tup [.int i,.int j]:=fun i j e=>hd ⟨i,j,e⟩
  rw [ratB_no hn] at h
  unfold m_is_ratio
  walk_at "w"
  refine .inr ⟨_,rfl,hn,?_⟩
  walk_at "w"
  exact ⟨_,ag az,h⟩
def cj:FS:=fun ls post=>∃ (T:Tr) (k:Nat),ls=[.d (trD T),.d (.str (tagN k)),.d (.int (lenN k:Int))]∧k≤2∧post (.d (.bl (T.kind == k))) ls
def m_is_told_as:W Fl:=(wSeq (wIf (wOr (wNot (aN (wUn (opIsT "tuple") (wVar 0)))) (aN (wBin opNe (aL bA (aVal (wVar 0) aNil)) (wVar 2)))) (wRet (wC (.bl false))) bt)
  (wRet (wAndV (wUn (opIsT "str") (wBin opIx (wVar 0) (wC (.int 0)))) (wBin opEq (wBin opIx (wVar 0) (wC (.int 0))) (wVar 1)))))
theorem sat_is_told_as:∀ ls post,ls.length=3→cj ls post→m_is_told_as (ls++List.replicate 0 .un) (aE ls post):=by
 rintro ls post - ⟨T,k,rfl,hk,h⟩
 unfold m_is_told_as
 have hk:k=0∨k=1∨k=2:=by omega
 rcases hk with rfl | rfl | rfl
 all_goals
  cases T
  all_goals
   unfold trD tagN lenN at *
   walk_at "w"
   first
    | (rw [if_pos (by decide)]; exact ⟨_,ag (ag (ag az)),h⟩)
    | (rw [if_neg (by simp)]; exact ⟨bj (n:=0) (by decide +kernel) (by decide),bj (n:=0) (by decide +kernel) (by decide),_,ag (ag (ag az)),h⟩)
def fb:FS:=fun ls post=>∃ t b:Int,ls=[.d (.int t),.d (.int b)]∧b≠0∧b.natAbs < 2 ^ 9000∧post (.d (frD (Rat.divInt t b))) ls
def m_lowest:W Fl:=(wSeq (wSet 2 (wFrz (av a7 (aVal (wVar 0) (aVal (wVar 1) aNil)))))
  (wSeq (wIf (aN (wBin opLt (wVar 1) (wC (.int 0)))) (wSet 2 (wUn opNeg (wVar 2))) bt)
  (wRet (wTup (aVal (wBin opDiv (wVar 0) (wVar 2)) (aVal (wBin opDiv (wVar 1) (wVar 2)) aNil))))))
theorem sat_lowest:∀ ls post,ls.length=2→fb ls post→m_lowest (ls++List.replicate 1 .un) (aE ls post):=by
 rintro ls post - ⟨t,b,rfl,hb,hz,h⟩
 unfold m_lowest
 walk_at "w"
 refine ⟨t,b,rfl,?_⟩
 walk_at "w"
 have h1:=share_ne (t:=t) hb
 have h2:=Nat.lt_of_le_of_lt (share_le (t:=t) hb) hz
 have fin:∀ {g:Int} {ρ:Ev},g=bO t b→g≠0∧g.natAbs < 2 ^ 9000∧g≠0∧g.natAbs < 2 ^ 9000∧2≤sizeLine∧aE [.d (.int t),.d (.int b)] post (.rt (.d (.tup [.int (t.fdiv g),.int (b.fdiv g)]))) ρ:=fun {g ρ} e=>by
  have e1:g≠0:=by rw [e]; exact h1
  have e2:g.natAbs < 2 ^ 9000:=by rw [e]; exact h2
  refine ⟨e1,e2,e1,e2,by decide,_,ag (ag az),?_⟩
  rw [low_pair hb e]
  exact h
 split
 ·
  rename_i hlt
  exact fin (by simp [bO,hlt])
 ·
  rename_i hlt
  exact fin (by simp [bO,hlt])
def fs_plus:FS:=fun ls post=>∃ p q:Rat,ls=[.d (frD p),.d (frD q)]∧RB 400000 p∧RB 400000 q∧p.den*q.den < 2 ^ 9000∧post (.d (frD (p+q))) ls
def m_plus:W Fl:=(wRet (av fb (aVal (wFrz (wBin bI (wBin aV (wBin opIx (wVar 0) (wC (.int 0))) (wBin opIx (wVar 1) (wC (.int 1)))) (wBin aV (wBin opIx (wVar 1) (wC (.int 0))) (wBin opIx (wVar 0) (wC (.int 1)))))) (aVal (wFrz (wBin aV (wBin opIx (wVar 0) (wC (.int 1))) (wBin opIx (wVar 1) (wC (.int 1))))) aNil))))
theorem sat_plus:∀ ls post,ls.length=2→fs_plus ls post→m_plus (ls++List.replicate 0 .un) (aE ls post):=by
 rintro ls post - ⟨p,q,rfl,hp,hq,hz,h⟩
 unfold m_plus
 simp only [frD]
 walk_at "w"
 refine ⟨hp.bn (by decide),hq.bd (by decide),hq.bn (by decide),hp.bd (by decide),hp.bd (by decide),hq.bd (by decide),_,_,rfl,dens_ne p q,by rw [dens_abs]; exact hz,_,ag (ag az),?_⟩
 rw [add_eq]
 exact h
theorem use_plus {p q:Rat} {post:L→List L→Prop} (hp:RB 4400 p) (hq:RB 4400 q) (h:post (.d (frD (p+q))) [.d (frD p),.d (frD q)]):fs_plus [.d (frD p),.d (frD q)] post :=
 ⟨p,q,rfl,hp.mono (by decide),hq.mono (by decide),Nat.lt_of_lt_of_le (aS hp.2 hq.2) (Nat.pow_le_pow_right (by decide) (by decide)),h⟩
def fs_minus:FS:=fun ls post=>∃ p q:Rat,ls=[.d (frD p),.d (frD q)]∧RB 400000 p∧RB 400000 q∧p.den*q.den < 2 ^ 9000∧post (.d (frD (p - q))) ls
def m_minus:W Fl:=(wRet (av fb (aVal (wBin opSub (wBin aV (wBin opIx (wVar 0) (wC (.int 0))) (wBin opIx (wVar 1) (wC (.int 1)))) (wBin aV (wBin opIx (wVar 1) (wC (.int 0))) (wBin opIx (wVar 0) (wC (.int 1))))) (aVal (wFrz (wBin aV (wBin opIx (wVar 0) (wC (.int 1))) (wBin opIx (wVar 1) (wC (.int 1))))) aNil))))
theorem sat_minus:∀ ls post,ls.length=2→fs_minus ls post→m_minus (ls++List.replicate 0 .un) (aE ls post):=by
 rintro ls post - ⟨p,q,rfl,hp,hq,hz,h⟩
 unfold m_minus
 simp only [frD]
 walk_at "w"
 refine ⟨hp.bn (by decide),hq.bd (by decide),hq.bn (by decide),hp.bd (by decide),hp.bd (by decide),hq.bd (by decide),_,_,rfl,dens_ne p q,by rw [dens_abs]; exact hz,_,ag (ag az),?_⟩
 rw [sub_eq]
 exact h
theorem use_minus {p q:Rat} {post:L→List L→Prop} (hp:RB 4400 p) (hq:RB 4400 q) (h:post (.d (frD (p - q))) [.d (frD p),.d (frD q)]):fs_minus [.d (frD p),.d (frD q)] post :=
 ⟨p,q,rfl,hp.mono (by decide),hq.mono (by decide),Nat.lt_of_lt_of_le (aS hp.2 hq.2) (Nat.pow_le_pow_right (by decide) (by decide)),h⟩
def fs_times:FS:=fun ls post=>∃ p q:Rat,ls=[.d (frD p),.d (frD q)]∧RB 4400 p∧RB 4400 q∧post (.d (frD (p*q))) ls
def m_times:W Fl:=(wRet (av fb (aVal (wFrz (wBin aV (wBin opIx (wVar 0) (wC (.int 0))) (wBin opIx (wVar 1) (wC (.int 0))))) (aVal (wFrz (wBin aV (wBin opIx (wVar 0) (wC (.int 1))) (wBin opIx (wVar 1) (wC (.int 1))))) aNil))))
theorem sat_times:∀ ls post,ls.length=2→fs_times ls post→m_times (ls++List.replicate 0 .un) (aE ls post):=by
 rintro ls post - ⟨p,q,rfl,hp,hq,h⟩
 unfold m_times
 walk_at "w"
 refine ⟨hp.bn (by decide),hq.bn (by decide),hp.bd (by decide),hq.bd (by decide),_,_,rfl,dens_ne p q,?_,_,ag (ag az),?_⟩
 ·
  rw [dens_abs]
  exact Nat.lt_of_lt_of_le (aS hp.2 hq.2) (Nat.pow_le_pow_right (by decide) (by decide))
 ·
  rw [mul_eq]
  exact h
def fs_over:FS:=fun ls post=>∃ p q:Rat,ls=[.d (frD p),.d (frD q)]∧RB 4400 p∧RB 4400 q∧q≠0∧post (.d (frD (p / q))) ls
def m_over:W Fl:=(wSeq (wIf (aN (wBin opEq (wBin opIx (wVar 1) (wC (.int 0))) (wC (.int 0)))) wNever bt)
  (wRet (av fb (aVal (wFrz (wBin aV (wBin opIx (wVar 0) (wC (.int 0))) (wBin opIx (wVar 1) (wC (.int 1))))) (aVal (wFrz (wBin aV (wBin opIx (wVar 0) (wC (.int 1))) (wBin opIx (wVar 1) (wC (.int 0))))) aNil)))))
theorem sat_over:∀ ls post,ls.length=2→fs_over ls post→m_over (ls++List.replicate 0 .un) (aE ls post):=by
 rintro ls post - ⟨p,q,rfl,hp,hq,h0,h⟩
 unfold m_over
 walk_at "w"
 rw [if_neg (num_ne h0)]
 walk_at "w"
 refine ⟨hp.bn (by decide),hq.bd (by decide),hp.bd (by decide),hq.bn (by decide),_,_,rfl,Int.mul_ne_zero (den_neI p) (num_ne h0),?_,_,ag (ag az),?_⟩
 ·
  rw [Int.natAbs_mul,Int.natAbs_natCast]
  exact Nat.lt_of_lt_of_le (aS hp.2 hq.1) (Nat.pow_le_pow_right (by decide) (by decide))
 ·
  rw [div_eq p h0]
  exact h
def fs_under:FS:=fun ls post=>∃ p q:Rat,ls=[.d (frD p),.d (frD q)]∧RB 400000 p∧RB 400000 q∧post (.d (.bl (decide (p < q)))) ls
def m_under:W Fl:=(wRet (wBin opLt (wBin aV (wBin opIx (wVar 0) (wC (.int 0))) (wBin opIx (wVar 1) (wC (.int 1)))) (wBin aV (wBin opIx (wVar 1) (wC (.int 0))) (wBin opIx (wVar 0) (wC (.int 1))))))
theorem sat_under:∀ ls post,ls.length=2→fs_under ls post→m_under (ls++List.replicate 0 .un) (aE ls post):=by
 rintro ls post - ⟨p,q,rfl,hp,hq,h⟩
 unfold m_under
 walk_at "w"
 refine ⟨hp.bn (by decide),hq.bd (by decide),hq.bn (by decide),hp.bd (by decide),_,ag (ag az),?_⟩
 rw [lt_eq]
 exact h
def fs_sum_of:FS:=fun ls post=>∃ (qs:List Rat) (x:D),ls=[.d x]∧(x=.lst (qs.map frD)∨x=.tup (qs.map frD))∧qs.length≤63∧(∀ q∈qs,RB 4400 q)∧SumOk qs∧post (.d (frD (sumQ qs))) ls
def fc:W Fl:=(wSet 1 (av fs_plus (aVal (wVar 1) (aVal (wVar 2) aNil))))
def m_sum_of:W Fl:=(wSeq (wSet 1 (wC (.tup [(.int 0),(.int 1)])))
  (wSeq (wFor (wSrc (wVar 0)) (aK 2) fc)
  (wRet (wMove 1))))
theorem sum_loop {x:D} {post:Fl→Ev→Prop}:∀ (qs:List Rat) (acc:Rat) (n:Nat) (r:L),qs.length≤63→n+4401*qs.length≤400000→RB n acc→(∀ q∈qs,RB 4400 q)→acc.den*denP qs < 2 ^ 9000→(∀ r',post .nx [.d x,.d (frD (qs.foldl (·+·) acc)),r']) →
  dk (aK 2) fc (qs.map frD) [.d x,.d (frD acc),r] post
 | [],acc,n,r,_,_,_,_,_,h=>h r
 | q::qs,acc,n,r,hl,hn,ha,hq,hd,h=>by
  have hd':acc.den*(q.den*denP qs) < 2 ^ 9000:=hd
  have hq1:=hq q List.mem_cons_self
  have hlc:(q::qs).length=qs.length+1:=rfl
  have dpos:0 < denP qs:=denP_pos qs
  have hz:acc.den*q.den < 2 ^ 9000:=Nat.lt_of_le_of_lt (by rw [← Nat.mul_assoc]; exact Nat.le_mul_of_pos_right _ dpos) hd'
  show dk _ _ (frD q::qs.map frD) _ _
  unfold dk fc
  walk_at "w"
  refine ⟨acc,q,rfl,ha.mono (by omega),hq1.mono (by decide),hz,?_⟩
  refine sum_loop qs (acc+q) (n+4400+1) _ (by omega) (by omega) (ha.add hq1) (fun z hz=>hq z (List.mem_cons_of_mem _ hz)) (Nat.lt_of_le_of_lt ?_ hd') h
  rw [← Nat.mul_assoc]
  exact Nat.mul_le_mul_right _ (den_add_le acc q)
theorem sum_loopD {x:D} {E:Nat} (e0:0 < E) (e1:E < 2 ^ 4400) {post:Fl→Ev→Prop}:∀ (qs:List Rat) (acc:Rat) (n:Nat) (r:L),qs.length≤63→n+4401*qs.length≤400000→RB n acc→(∀ q∈qs,RB 4400 q)→acc.den∣E→(∀ q∈qs,q.den∣E)→(∀ r',post .nx [.d x,.d (frD (qs.foldl (·+·) acc)),r']) →
  dk (aK 2) fc (qs.map frD) [.d x,.d (frD acc),r] post
 | [],acc,n,r,_,_,_,_,_,_,h=>h r
 | q::qs,acc,n,r,hl,hn,ha,hq,hd,hds,h=>by
  have hq1:=hq q List.mem_cons_self
  have hq2:=hds q List.mem_cons_self
  have hlc:(q::qs).length=qs.length+1:=rfl
  have hz:acc.den*q.den < 2 ^ 9000:=Nat.lt_of_lt_of_le (aS (m:=4400) (n:=4400) (Nat.lt_of_le_of_lt (Nat.le_of_dvd e0 hd) e1) (Nat.lt_of_le_of_lt (Nat.le_of_dvd e0 hq2) e1)) (Nat.pow_le_pow_right (by decide) (by decide))
  show dk _ _ (frD q::qs.map frD) _ _
  unfold dk fc
  walk_at "w"
  refine ⟨acc,q,rfl,ha.mono (by omega),hq1.mono (by decide),hz,?_⟩
  exact sum_loopD e0 e1 qs (acc+q) (n+4400+1) _ (by omega) (by omega) (ha.add hq1) (fun z hz=>hq z (List.mem_cons_of_mem _ hz)) (den_add e0 hd hq2) (fun z hz=>hds z (List.mem_cons_of_mem _ hz)) h
theorem sat_sum_of:∀ ls post,ls.length=1→fs_sum_of ls post→m_sum_of (ls++List.replicate 2 .un) (aE ls post):=by
 rintro ls post - ⟨qs,x,rfl,hx,hl,hq,hd,h⟩
 unfold m_sum_of
 have fin:∀ r',aE [.d x] post (.rt (.d (frD (sumQ qs)))) [.d x,.d (frD (sumQ qs)),r']:=fun r'=>⟨_,ag az,h⟩
 rcases hx with rfl | rfl
 ·
  walk_at "w"
  rcases hd with hd | ⟨E,e0,e1,hd⟩
  ·
   exact sum_loop qs 0 1 .un hl (by omega) ⟨by decide,by decide⟩ hq (by show 1*_ < _; rw [Nat.one_mul]; exact hd) fun r'=>fin r'
  ·
   exact sum_loopD e0 e1 qs 0 1 .un hl (by omega) ⟨by decide,by decide⟩ hq (Nat.one_dvd _) hd fun r'=>fin r'
 ·
  walk_at "w"
  rcases hd with hd | ⟨E,e0,e1,hd⟩
  ·
   exact sum_loop qs 0 1 .un hl (by omega) ⟨by decide,by decide⟩ hq (by show 1*_ < _; rw [Nat.one_mul]; exact hd) fun r'=>fin r'
  ·
   exact sum_loopD e0 e1 qs 0 1 .un hl (by omega) ⟨by decide,by decide⟩ hq (Nat.one_dvd _) hd fun r'=>fin r'
theorem use_sum {qs:List Rat} {b:Nat} {post:L→List L→Prop} (hq:∀ q∈qs,RB b q) (hl:qs.length≤63) (hb:b≤1000) (hm:b*qs.length < 9000) (h:post (.d (frD (sumQ qs))) [.d (.lst (qs.map frD))]):fs_sum_of [.d (.lst (qs.map frD))] post :=
 ⟨qs,_,rfl,.inl rfl,hl,fun q hm=>(hq q hm).mono (Nat.le_trans hb (by decide)),.inl (Nat.lt_of_le_of_lt (denP_le qs hq) (Nat.pow_lt_pow_right (by decide) hm)),h⟩
/-- a cut,to the kinds -/
def cutB (n:Nat):D→Bool
 | .tup [.int i,.int j]=>decide (0≤i∧i≤j∧j < (n:Int))
 | _=>false
theorem cutB_no {n:Nat} {d:D} (h:∀ i j,d≠.tup [.int i,.int j]):cutB n d=false:=by
 unfold cutB
 split
 ·
  exact absurd rfl (h _ _)
 ·
  rfl
theorem cutB_is {n:Nat} {d:D} (h:cutB n d=true):∃ c:Nat×Nat,d=cutP c∧IsCut n c:=by
 unfold cutB at h
 split at h
 ·
  rename_i i j
  have h:=of_decide_eq_true h
  refine ⟨(i.toNat,j.toNat),?_,?_,?_⟩
  ·
   unfold cutP
   simp only
   rw [Int.toNat_of_nonneg h.1,Int.toNat_of_nonneg (by omega)]
  ·
   show i.toNat≤j.toNat
   omega
  ·
   show j.toNat < n
   omega
 ·
  cases h
def fs_is_cut:FS:=fun ls post=>∃ (R:Ring) (d:D),ls=[.d (aR R),.d d]∧post (.d (.bl (cutB R.n d))) ls
def m_is_cut:W Fl:=(wRet (wAndV (av bJ (aVal (wVar 1) aNil)) (wChainN (wC (.int 0)) [(opLe,(wBin opIx (wVar 1) (wC (.int 0)))),(opLe,(wBin opIx (wVar 1) (wC (.int 1)))),(opLt,(aL bA (aVal (wBin opIx (wVar 0) (wC (.int 0))) aNil)))])))
theorem sat_is_cut:∀ ls post,ls.length=2→fs_is_cut ls post→m_is_cut (ls++List.replicate 0 .un) (aE ls post):=by
 rintro ls post - ⟨R,d,rfl,h⟩
 unfold m_is_cut
 walk_at "w"
 rcases two_cases d with ⟨i,j,rfl⟩ | hd
 ·
  refine .inl ⟨i,j,rfl,?_⟩
  walk_at "w"
  have fin:∀ b:Bool,b=cutB R.n (.tup [.int i,.int j])→aE [.d (aR R),.d (.tup [.int i,.int j])] post (.rt (.d (.bl b))) [.d (aR R),.d (.tup [.int i,.int j])]:=fun b hb=>by subst hb; exact ⟨_,ag (ag az),h⟩
  have ec:cutB R.n (.tup [.int i,.int j])=decide (0≤i∧i≤j∧j < (R.n:Int)):=rfl
  by_cases c1:0≤i <;> by_cases c2:i≤j <;> by_cases c3:j < (R.n:Int) <;> simp only [c1,c2,c3,if_true,if_false,decide_true,decide_false] <;> refine fin _ ?_ <;> rw [ec] <;> simp only [c1,c2,c3] <;> decide
 ·
  refine .inr ⟨d,rfl,hd,?_⟩
  walk_at "w"
  rw [cutB_no hd] at h
  exact ⟨_,ag (ag az),h⟩
def d6:FS:=fun ls post=>∃ (c:Nat×Nat) (p:Nat),ls=[.d (cutP c),.d (.int p)]∧post (.d (.bl (within c p))) ls
def m_is_within:W Fl:=(wRet (wChain opLt opLe (wBin opIx (wVar 0) (wC (.int 0))) (wVar 1) (wBin opIx (wVar 0) (wC (.int 1)))))
theorem sat_is_within:∀ ls post,ls.length=2→d6 ls post→m_is_within (ls++List.replicate 0 .un) (aE ls post):=by
 rintro ls post - ⟨c,p,rfl,h⟩
 unfold m_is_within
 walk_at "w"
 unfold within at h
 split
 ·
  rename_i h1
  refine ⟨_,ag (ag az),?_⟩
  have e:decide ((p:Int)≤(c.2:Int))=decide (c.1 < p∧p≤c.2):=by rw [decide_eq_decide]; omega
  rw [e]; exact h
 ·
  rename_i h1
  refine ⟨_,ag (ag az),?_⟩
  rw [decide_eq_false (show ¬ (c.1 < p∧p≤c.2) by omega)] at h
  exact h
def ck:FS:=fun ls post=>∃ (c:Nat×Nat) (i j:Nat),ls=[.d (cutP c),.d (.int i),.d (.int j)]∧post (.d (.bl (apart c i j))) ls
def eF:W Fl:=(wRet (wBin opNe (av d6 (aVal (wVar 0) (aVal (wVar 1) aNil))) (av d6 (aVal (wVar 0) (aVal (wVar 2) aNil)))))
theorem sat_parts_places:∀ ls post,ls.length=3→ck ls post→eF (ls++List.replicate 0 .un) (aE ls post):=by
 rintro ls post - ⟨c,i,j,rfl,h⟩
 unfold eF
 walk_at "w"
 refine ⟨c,i,rfl,?_⟩
 walk_at "w"
 refine ⟨c,j,rfl,?_⟩
 walk_at "w"
 refine ⟨_,ag (ag (ag az)),?_⟩
 have e:(!decide (within c i=within c j))=apart c i j:=by
  unfold apart
  cases within c i <;> cases within c j <;> rfl
 rw [e]; exact h
def fs_all_cuts:FS:=fun ls post=>∃ (R:Ring),ls=[.d (aR R)]∧R.Ok∧∀ c,post (.own c ((cutsL R.n).map cutP)) ls
def b_all_cuts_0:W L:=(wTup (aVal (wVar 1) (aVal (wVar 0) aNil)))
def b_all_cuts_1:W Fl:=(wDrop (wExt 1 (cb 1 [2] (wRng2 (wVar 2) (aL bA (aVal (wBin opIx (wVar 0) (wC (.int 0))) aNil))) (aK 0) b6 b_all_cuts_0)))
def m_all_cuts:W Fl:=(wSeq (wSet 1 (wLst aNil))
  (wSeq (wFor (wRng1 (aL bA (aVal (wBin opIx (wVar 0) (wC (.int 0))) aNil))) (aK 2) b_all_cuts_1)
  (wRet (wMove 1))))
theorem cflat_take {α:Type} (f:Nat→List α) (k:Nat):(List.range (k+1)).flatMap f=(List.range k).flatMap f++f k:=by
 rw [List.range_succ,List.flatMap_append]
 simp
theorem cflat_len {n k:Nat} (hn:n≤12) (hk:k≤n):((List.range k).flatMap fun g=>(List.range (n - g)).map fun i=>(g,g+i)).length≤144:=by
 have:∀ (m:Fin 13) (j:Fin 13),((List.range j.1).flatMap fun g=>(List.range (m.1 - g)).map fun i=>(g,g+i)).length≤144:=by decide
 exact this ⟨n,by omega⟩ ⟨k,by omega⟩
theorem sat_all_cuts:∀ ls post,ls.length=1→fs_all_cuts ls post→m_all_cuts (ls++List.replicate 2 .un) (aE ls post):=by
 rintro ls post - ⟨R,rfl,hR,h⟩
 have hhi:=hR.hi
 unfold m_all_cuts
 walk_at "w"
 refine ⟨by decide,fun c=>⟨⟨by omega,by omega⟩,?_⟩⟩
 rw [Int.toNat_natCast]
 refine forR0_inv _ (fun k ρ=>∃ x2,ρ=[.d (aR R),.own c (((List.range k).flatMap fun g=>(List.range (R.n - g)).map fun i=>(g,g+i)).map cutP),x2]) _ ⟨_,rfl⟩ ?_ ?_
 ·
  rintro g ρ hg ⟨x2,rfl⟩ Q h1 h2 h3 h4
  unfold b_all_cuts_1
  walk_at "w"
  refine ⟨⟨by omega,by omega⟩,⟨by omega,by omega⟩,?_⟩
  have e:((R.n:Int) - (g:Int)).toNat=R.n - g:=by omega
  have e2:rngD (g:Int) (R.n - g)=(List.range (R.n - g)).map fun (i:Nat)=>D.int ((g:Int)+(i:Int)):=rfl
  rw [e,e2]
  refine ⟨by rw [List.length_map,List.length_range]; exact Nat.le_trans (show R.n - g≤12 by omega) (by decide),?_⟩
  refine bm (h:=fun i=>cutP (g,g+i)) _ _ _ (fun i hi Q' q=>?_) fun l' a=>?_
  ·
   unfold b_all_cuts_0
   walk_at "w"
   refine ⟨by decide,?_⟩
   have e3:D.tup [.int (g:Int),.int ((g:Int)+(i:Int))]=cutP (g,g+i):=by
    unfold cutP
    show _=D.tup [.int (g:Int),.int ((g+i:Nat):Int)]
    rw [Int.natCast_add]
   rw [e3]
   exact q
  ·
   walk_at "w"
   have hl:=cflat_len (k:=g) hhi (by omega)
   refine ⟨?_,h1 _ ⟨.d (.int g),?_⟩⟩
   ·
    rw [List.length_range]
    exact Nat.le_trans (show _≤200 by omega) (by decide)
   ·
    rw [cflat_take,List.map_append,List.map_map]
    rfl
 ·
  rintro ρ ⟨x2,rfl⟩
  walk_at "w"
  exact ⟨_,ag az,h c⟩
def cZ:FS:=fun ls post=>∃ (qs:List Rat) (P:Nat),ls=[.d (.lst (qs.map frD))]∧(∀ q∈qs,q.den∣P)∧0 < P∧P < 2 ^ 4400∧post (.d (.int (cbN qs))) ls
def ff:W Fl:=(wSet 1 (av dE (aVal (wVar 1) (aVal (wBin opIx (wVar 2) (wC (.int 1))) aNil))))
def dG:W Fl:=(wSeq (wSet 1 (wC (.int 1)))
  (wSeq (wFor (wSrc (wVar 0)) (aK 2) ff)
  (wRet (wMove 1))))
theorem sat_common_bottom:∀ ls post,ls.length=1→cZ ls post→dG (ls++List.replicate 2 .un) (aE ls post):=by
 rintro ls post - ⟨qs,P,rfl,hd,hP,hP2,h⟩
 unfold dG
 walk_at "w"
 refine forT_inv (enc:=frD) qs (fun pre ρ=>∃ x2,ρ=[.d (.lst (qs.map frD)),.d (.int (cbN pre)),x2]) _ ⟨_,rfl⟩ ?_ ?_
 ·
  rintro pre q suf ρ hsp ⟨x2,rfl⟩ Q h1 h2 h3 h4
  have hq:q.den∣P:=hd q (by rw [hsp]; simp)
  have hc:cbN pre∣P:=cb_le fun p hp=>hd p (by rw [hsp]; simp [hp])
  have e:cbN (pre++[q])=Nat.lcm (cbN pre) q.den:=by unfold cbN; rw [List.foldl_append]; rfl
  rw [e] at h1
  unfold ff
  walk_at "w"
  refine ⟨cbN pre,q.den,rfl,den_pos q,Nat.lt_of_le_of_lt (Nat.le_of_dvd hP hc) hP2,Nat.lt_of_le_of_lt (Nat.le_of_dvd hP hq) hP2,?_⟩
  exact h1 _ ⟨_,rfl⟩
 ·
  rintro ρ ⟨x2,rfl⟩
  walk_at "w"
  exact ⟨_,ag az,h⟩
def fN:FS:=fun ls post=>∃ (qs:List Rat) (u:Nat),ls=[.d (.lst (qs.map frD)),.d (.int u)]∧qs.length≤63∧(∀ q∈qs,RB 4400 q)∧u < 2 ^ 4400∧∀ c,post (.own c (qs.map fun q=>D.int (unitI u q))) ls
def b_in_units_0:W L:=(wBin aV (wBin opIx (wVar 0) (wC (.int 0))) (wBin opDiv (wVar 1) (wBin opIx (wVar 0) (wC (.int 1)))))
def m_in_units:W Fl:=(wRet (cb 1 [1] (wSrc (wVar 0)) (aK 0) b6 b_in_units_0))
theorem sat_in_units:∀ ls post,ls.length=2→fN ls post→m_in_units (ls++List.replicate 0 .un) (aE ls post):=by
 rintro ls post - ⟨qs,u,rfl,hl,hq,hu,h⟩
 unfold m_in_units
 walk_at "w"
 refine ⟨Nat.le_trans hl (by decide),?_⟩
 refine bm (h:=fun q=>D.int (unitI u q)) _ _ _ (fun q hm Q hQ=>?_) fun l' c=>?_
 ·
  unfold b_in_units_0
  walk_at "w"
  have hb:=hq q hm
  have e:(u:Int).fdiv (q.den:Int)=((u / q.den:Nat):Int):=by
   rw [Int.fdiv_eq_ediv_of_nonneg _ (by omega),Int.natCast_ediv]
  rw [e]
  refine ⟨den_neI q,?_,hb.bn (by decide),?_,hQ⟩
  ·
   rw [Int.natAbs_natCast]
   exact Nat.lt_of_lt_of_le hb.2 (Nat.pow_le_pow_right (by decide) (by decide))
  ·
   exact cJ (n:=4400) (by rw [Int.natAbs_natCast]; exact Nat.lt_of_le_of_lt (Nat.div_le_self _ _) hu) (by decide)
 ·
  walk_at "w"
  exact ⟨_,ag (ag az),h c⟩
def fs_weighed:FS:=fun ls post=>∃ (R:Ring) (q:Rat),ls=[.d (aR R),.d (frD q)]∧R.Ok∧RB 1750 q∧post (.d (.tup [.int (aP R q),.lst (intL R.asks.length (wI R q)),.lst (intL R.n (f0I R q))])) ls
def b_weighed_0:W L:=(av fs_times (aVal (wVar 1) (aVal (wVar 0) aNil)))
def b_weighed_1:W L:=(wBin opIx (wVar 0) (wC (.int 3)))
def m_weighed:W Fl:=(wSeq (wSet 2 (cb 1 [] (wSrc (wBin opIx (wVar 0) (wC (.int 1)))) (aK 0) b6 b_weighed_1))
  (wSeq (wSet 3 (cb 1 [1] (wSrc (wBin opIx (wVar 0) (wC (.int 0)))) (aK 0) b6 b_weighed_0))
  (wSeq (wSet 4 (wFrz (wBin aV (wC (.int 2)) (av cZ (aVal (wFrz (wBin bI (wVar 2) (wVar 3))) aNil)))))
  (wRet (wTup (aVal (wVar 4) (aVal (wFrz (av fN (aVal (wVar 2) (aVal (wVar 4) aNil)))) (aVal (wFrz (av fN (aVal (wVar 3) (aVal (wVar 4) aNil)))) aNil))))))))
theorem sat_weighed:∀ ls post,ls.length=2→fs_weighed ls post→m_weighed (ls++List.replicate 3 .un) (aE ls post):=by
 rintro ls post - ⟨R,q,rfl,hR,hq,h⟩
 have hfew:=hR.few
 have hhi:=hR.hi
 unfold m_weighed
 walk_at "w"
 refine ⟨Nat.le_trans hfew (by decide),?_⟩
 refine bm (h:=fun a=>frD a.size) _ _ _ (fun a hm Q hQ=>?_) fun l' c1=>?_
 ·
  unfold b_weighed_1
  walk_at "w"
  exact hQ
 walk_at "w"
 refine ⟨Nat.le_trans hhi (by decide),?_⟩
 refine bm (h:=fun r=>frD (q*r)) _ _ _ (fun r hm Q hQ=>?_) fun l' c2=>?_
 ·
  unfold b_weighed_0
  walk_at "w"
  refine ⟨_,_,rfl,hq.mono (by decide),(hR.room r hm).2.mono (by decide),?_⟩
  walk_at "w"
  exact hQ
 obtain ⟨u0,u1⟩:=units_lt hR hq
 have e1:R.asks.map (fun a=>frD a.size)=(sizesL R).map frD:=by unfold sizesL; rw [List.map_map]; rfl
 have e2:R.rooms.map (fun r=>frD (q*r))=(mostL R q).map frD:=by unfold mostL; rw [List.map_map]; rfl
 rw [e1,e2]
 walk_at "w"
 rw [← List.map_append]
 have ls1:(sizesL R).length≤20:=by unfold sizesL; rw [List.length_map]; exact hfew
 have ls2:(mostL R q).length≤12:=by unfold mostL; rw [List.length_map]; exact hhi
 have c0:=cb_pos R q
 have c1':cbR R q < 2 ^ 3750:=Nat.lt_of_le_of_lt (show cbR R q≤aP R q by unfold aP; omega) u1
 refine ⟨Nat.le_trans (show _≤32 by omega) (by decide),fun _=>⟨_,cbR R q,rfl,fun p hp=>cb_dvd hp,c0,Nat.lt_of_lt_of_le c1' (Nat.pow_le_pow_right (by decide) (by decide)),?_⟩⟩
 walk_at "w"
 have eu:(2:Int)*((cbN (sizesL R++mostL R q):Nat):Int)=((aP R q:Nat):Int):=by
  show (2:Int)*((cbR R q:Nat):Int)=((2*cbR R q:Nat):Int)
  omega
 rw [eu]
 have u2:aP R q < 2 ^ 4400:=Nat.lt_of_lt_of_le u1 (Nat.pow_le_pow_right (by decide) (by decide))
 refine ⟨a6 (by decide),cJ (n:=3750) (by rw [Int.natAbs_natCast]; exact c1') (by decide),?_⟩
 refine ⟨sizesL R,aP R q,rfl,by omega,fun p hp=>?_,u2,fun c3=>?_⟩
 ·
  obtain ⟨a,ha,rfl⟩:=List.mem_map.mp hp
  exact (hR.rb ha).mono (by decide)
 walk_at "w"
 refine ⟨mostL R q,aP R q,rfl,by omega,fun p hp=>?_,u2,fun c4=>?_⟩
 ·
  obtain ⟨r,hr,rfl⟩:=List.mem_map.mp hp
  exact (hq.mul (hR.room r hr).2).mono (by decide)
 walk_at "w"
 rw [w_list,f_list]
 exact ⟨by decide,_,ag (ag az),h⟩
def fs_is_way:FS:=fun ls post=>∃ (b:Bool),ls=[.d (.str (wayS b))]∧post (.d (.bl true)) ls
def m_is_way:W Fl:=(wRet (wAndV (wUn (opIsT "str") (wVar 0)) (wBin (opInF false) (wVar 0) (wTup (aVal (wC (.str "on")) (aVal (wC (.str "back")) aNil))))))
theorem sat_is_way:∀ ls post,ls.length=1→fs_is_way ls post→m_is_way (ls++List.replicate 0 .un) (aE ls post):=by
 rintro ls post - ⟨b,rfl,h⟩
 unfold m_is_way
 walk_at "w"
 have e:inF (.str (wayS b)) [.str "on",.str "back"]=true:=by cases b <;> decide
 rw [e]
 exact ⟨by decide,rfl,rfl,_,ag az,h⟩
def fs_other_way:FS:=fun ls post=>∃ w:Bool,ls=[.d (.str (wayS w))]∧post (.d (.str (wayS !w))) ls
def m_other_way:W Fl:=(wRet (wIfE (aN (wBin opEq (wVar 0) (wC (.str "on")))) (wC (.str "back")) (wC (.str "on"))))
theorem sat_other_way:∀ ls post,ls.length=1→fs_other_way ls post→m_other_way (ls++List.replicate 0 .un) (aE ls post):=by
 rintro ls post - ⟨w,rfl,h⟩
 unfold m_other_way
 walk_at "w"
 cases w
 ·
  exact ⟨_,ag az,h⟩
 ·
  exact ⟨_,ag az,h⟩
def fg:FS:=fun ls post=>∃ (R:Ring) (k:Nat) (w:Bool) (t:Nat) (hk:k < R.asks.length),ls=[.d (aR R),.d (.int k),.d (.str (wayS w)),.d (.int t)]∧R.Ok∧t < R.n∧post (.d (.bl (isOn R.n R.asks[k] t == w))) ls
def c_is_over_3:W Fl:=(wRet (wBin opEq (wVar 7) (wBin opEq (wVar 2) (wC (.str "on")))))
def c_is_over_2:W Fl:=(wSeq (wSet 7 (wBin opLt (wBin eW (wBin opSub (wVar 3) (wVar 5)) (wVar 4)) (wBin eW (wBin opSub (wVar 6) (wVar 5)) (wVar 4))))
  c_is_over_3)
def c_is_over_1:W Fl:=(wSeq (wSet 6 (wBin opIx (wBin opIx (wBin opIx (wVar 0) (wC (.int 1))) (wVar 1)) (wC (.int 2))))
  c_is_over_2)
def c_is_over_0:W Fl:=(wSeq (wSet 5 (wBin opIx (wBin opIx (wBin opIx (wVar 0) (wC (.int 1))) (wVar 1)) (wC (.int 1))))
  c_is_over_1)
def m_is_over:W Fl:=(wSeq (wSet 4 (wFrz (aL bA (aVal (wBin opIx (wVar 0) (wC (.int 0))) aNil))))
  c_is_over_0)
theorem sat_is_over:∀ ls post,ls.length=4→fg ls post→m_is_over (ls++List.replicate 4 .un) (aE ls post):=by
 rintro ls post - ⟨R,k,w,t,hk,rfl,hR,ht,h⟩
 have ha:=hR.ask _ (List.getElem_mem hk)
 have h1:=ha.one
 have h2:=ha.other
 unfold m_is_over
 walk_at "w"
 unfold c_is_over_0
 walk_at "w"
 refine ⟨_,et hk,?_⟩
 walk_at "w"
 unfold c_is_over_1
 walk_at "w"
 refine ⟨_,et hk,?_⟩
 walk_at "w"
 unfold c_is_over_2
 walk_at "w"
 rw [sub_mod h1 h2,sub_mod h1 ht]
 refine ⟨by omega,by omega,?_⟩
 unfold c_is_over_3
 walk_at "w"
 refine ⟨_,ag (ag (ag (ag az))),?_⟩
 have e:decide (decide ((((t+R.n - R.asks[k].one) % R.n:Nat):Int) < (((R.asks[k].other+R.n - R.asks[k].one) % R.n:Nat):Int))=decide (w=true))=(isOn R.n R.asks[k] t == w):=by
  have e1:decide ((((t+R.n - R.asks[k].one) % R.n:Nat):Int) < (((R.asks[k].other+R.n - R.asks[k].one) % R.n:Nat):Int))=isOn R.n R.asks[k] t:=by
   unfold isOn far
   rw [decide_eq_decide]
   omega
  rw [e1]
  cases isOn R.n R.asks[k] t <;> cases w <;> rfl
 rw [e]
 exact h
def fs_sent_over:FS:=fun ls post=>∃ (R:Ring) (ps:List Rat) (k t:Nat) (hk:k < R.asks.length) (hp:k < ps.length),ls=[.d (aR R),.d (.lst (ps.map frD)),.d (.int k),.d (.int t)]∧R.Ok∧RB 4400 ps[k]∧t < R.n∧post (.d (frD (sent R.n R.asks[k] ps[k] t))) ls
def m_sent_over:W Fl:=(wSeq (wIf (aN (av fg (aVal (wVar 0) (aVal (wVar 2) (aVal (wC (.str "on")) (aVal (wVar 3) aNil)))))) (wRet (wBin opIx (wVar 1) (wVar 2))) bt)
  (wRet (av fs_minus (aVal (wBin opIx (wBin opIx (wBin opIx (wVar 0) (wC (.int 1))) (wVar 2)) (wC (.int 3))) (aVal (wBin opIx (wVar 1) (wVar 2)) aNil)))))
theorem sat_sent_over:∀ ls post,ls.length=4→fs_sent_over ls post→m_sent_over (ls++List.replicate 0 .un) (aE ls post):=by
 rintro ls post - ⟨R,ps,k,t,hk,hp,rfl,hR,hb,ht,h⟩
 have ha:=hR.ask _ (List.getElem_mem hk)
 unfold m_sent_over
 walk_at "w"
 refine ⟨R,k,true,t,hk,rfl,hR,ht,?_⟩
 walk_at "w"
 unfold sent at h
 cases e:isOn R.n R.asks[k] t
 ·
  rw [e] at h
  walk_at "w"
  refine ⟨_,et hk,?_⟩
  walk_at "w"
  refine ⟨_,et hp,?_⟩
  exact use_minus ((hR.rb (List.getElem_mem hk)).mono (by decide)) (hb.mono (by decide)) ⟨_,ag (ag (ag (ag az))),h⟩
 ·
  rw [e] at h
  walk_at "w"
  exact ⟨_,et hp,_,ag (ag (ag (ag az))),h⟩
def fs_load_of:FS:=fun ls post=>∃ (R:Ring) (ps:List Rat) (t:Nat),ls=[.d (aR R),.d (.lst (ps.map frD)),.d (.int t)]∧R.Ok∧ps.length=R.asks.length∧LB R ps∧t < R.n∧post (.d (frD (e8 R.n R.asks ps t))) ls
def b_load_of_0:W L:=(av fs_sent_over (aVal (wVar 1) (aVal (wVar 2) (aVal (wVar 0) (aVal (wVar 3) aNil)))))
def m_load_of:W Fl:=(wRet (av fs_sum_of (aVal (wFrz (cb 1 [0,1,2] (wRng1 (aL bA (aVal (wBin opIx (wVar 0) (wC (.int 1))) aNil))) (aK 0) b6 b_load_of_0)) aNil)))
theorem sat_load_of:∀ ls post,ls.length=3→fs_load_of ls post→m_load_of (ls++List.replicate 0 .un) (aE ls post):=by
 rintro ls post - ⟨R,ps,t,rfl,hR,hl,hb,ht,h⟩
 have hfew:=hR.few
 unfold m_load_of
 walk_at "w"
 refine ⟨⟨by omega,by omega⟩,?_⟩
 rw [Int.toNat_natCast,rngD_map]
 refine ⟨by rw [List.length_map,List.length_range]; exact Nat.le_trans hfew (by decide),?_⟩
 refine bm (h:=fun k=>frD (((R.asks.zip ps).map fun x=>sent R.n x.1 x.2 t).getD k 0)) _ _ _ (fun k hk Q q=>?_) fun l' a=>?_
 ·
  have hk:=List.mem_range.mp hk
  unfold b_load_of_0
  walk_at "w"
  refine ⟨R,ps,k,t,hk,by omega,rfl,hR,(hb.p _ (List.getElem_mem _)).mono (by decide),ht,?_⟩
  walk_at "w"
  have e:(((R.asks.zip ps).map fun x=>sent R.n x.1 x.2 t).getD k 0)=sent R.n R.asks[k] (ps[k]'(by omega)) t:=by
   rw [List.getD_eq_getElem?_getD,List.getElem?_map,List.getElem?_eq_getElem (by rw [List.length_zip]; omega),List.getElem_zip]
   rfl
  rw [e] at q
  exact q
 ·
  walk_at "w"
  have e:(List.range R.asks.length).map (fun k=>frD (((R.asks.zip ps).map fun x=>sent R.n x.1 x.2 t).getD k 0))=((R.asks.zip ps).map fun x=>sent R.n x.1 x.2 t).map frD:=by
   refine range_get _ (by rw [List.length_map,List.length_zip]; omega) _ fun k hk=>?_
   rw [List.getD_eq_getElem?_getD,List.getElem?_eq_getElem hk]
   rfl
  rw [e]
  refine ⟨_,_,rfl,.inl rfl,by rw [List.length_map,List.length_zip]; omega,fun q hq=>?_,hb.sm t,⟨_,ag (ag (ag az)),h⟩⟩
  obtain ⟨x,hx,rfl⟩:=List.mem_map.mp hq
  obtain ⟨j,hj,e⟩:=List.mem_iff_getElem.mp hx
  have hj':j < R.asks.length:=by rw [List.length_zip] at hj; omega
  rw [List.getElem_zip] at e
  rw [← e]
  exact (hb.st j hj' (by omega) t).mono (by decide)
def fs_loads_of:FS:=fun ls post=>∃ (R:Ring) (ps:List Rat),ls=[.d (aR R),.d (.lst (ps.map frD))]∧R.Ok∧ps.length=R.asks.length∧LB R ps∧∀ a,post (.own a (frL R.n (e8 R.n R.asks ps))) ls
def b_loads_of_0:W L:=(av fs_load_of (aVal (wVar 1) (aVal (wVar 2) (aVal (wVar 0) aNil))))
def m_loads_of:W Fl:=(wRet (cb 1 [0,1] (wRng1 (aL bA (aVal (wBin opIx (wVar 0) (wC (.int 0))) aNil))) (aK 0) b6 b_loads_of_0))
theorem sat_loads_of:∀ ls post,ls.length=2→fs_loads_of ls post→m_loads_of (ls++List.replicate 0 .un) (aE ls post):=by
 rintro ls post - ⟨R,ps,rfl,hR,hl,hb,h⟩
 have hhi:=hR.hi
 unfold m_loads_of
 walk_at "w"
 refine ⟨⟨by omega,by omega⟩,?_⟩
 rw [Int.toNat_natCast,rngD_map]
 refine ⟨by rw [List.length_map,List.length_range]; exact Nat.le_trans hhi (by decide),?_⟩
 refine bm (h:=fun t=>frD (e8 R.n R.asks ps t)) _ _ _ (fun t ht Q q=>?_) fun l' a=>?_
 ·
  unfold b_loads_of_0
  walk_at "w"
  refine ⟨R,ps,t,rfl,hR,hl,hb,List.mem_range.mp ht,?_⟩
  walk_at "w"
  exact q
 ·
  walk_at "w"
  exact ⟨_,ag (ag az),h a⟩
def df:FS:=fun ls post=>∃ (R:Ring) (ps:List Rat),ls=[.d (aR R),.d (.lst (ps.map frD))]∧R.Ok∧ps.length=R.asks.length∧LB R ps∧∀ a,post (.own a (frL R.n (aF R ps))) ls
def b_strains_of_0:W L:=(av fs_over (aVal (wVar 0) (aVal (wVar 1) aNil)))
def m_strains_of:W Fl:=(wRet (cb 2 [] (wZip (av fs_loads_of (aVal (wVar 0) (aVal (wVar 1) aNil))) (wBin opIx (wVar 0) (wC (.int 0)))) (dj [0,1]) b6 b_strains_of_0))
theorem sat_strains_of:∀ ls post,ls.length=2→df ls post→m_strains_of (ls++List.replicate 0 .un) (aE ls post):=by
 rintro ls post - ⟨R,ps,rfl,hR,hl,hb,h⟩
 have hhi:=hR.hi
 unfold m_strains_of
 walk_at "w"
 refine ⟨R,ps,rfl,hR,hl,hb,fun _=>?_⟩
 walk_at "w"
 rw [room_lst,zip_frL]
 refine ⟨by rw [List.length_map,List.length_range]; exact Nat.le_trans hhi (by decide),?_⟩
 refine comp_map2 (h:=fun t=>frD (aF R ps t)) _ _ _ _ (fun t ht Q q=>?_) fun l m a=>?_
 ·
  have ht:=List.mem_range.mp ht
  obtain ⟨r1,r2⟩:=room_ok hR ht
  unfold b_strains_of_0
  walk_at "w"
  exact ⟨_,_,rfl,(hb.all hl t).mono (by decide),r2.mono (by decide),(by grind),q⟩
 ·
  walk_at "w"
  exact ⟨_,ag (ag az),h a⟩
def topP (R:Ring) (ps:List Rat):D:=.tup [frD (aF R ps (topI R.n (aF R ps))),.int (topI R.n (aF R ps):Nat)]
def fs_top_of:FS:=fun ls post=>∃ (R:Ring) (ps:List Rat),ls=[.d (aR R),.d (.lst (ps.map frD))]∧R.Ok∧ps.length=R.asks.length∧LB R ps∧post (.d (topP R ps)) ls
def b_top_of_0:W Fl:=(wIf (aN (av fs_under (aVal (wBin opIx (wVar 2) (wVar 3)) (aVal (wVar 5) aNil)))) (wSet 3 (wVar 4)) bt)
def m_top_of:W Fl:=(wSeq (wSet 2 (wFrz (av df (aVal (wVar 0) (aVal (wVar 1) aNil)))))
  (wSeq (wSet 3 (wC (.int 0)))
  (wSeq (wFor (wEnum (wVar 2)) (dj [4,5]) b_top_of_0)
  (wRet (wTup (aVal (wBin opIx (wVar 2) (wVar 3)) (aVal (wVar 3) aNil)))))))
theorem sat_top_of:∀ ls post,ls.length=2→fs_top_of ls post→m_top_of (ls++List.replicate 4 .un) (aE ls post):=by
 rintro ls post - ⟨R,ps,rfl,hR,hl,hb,h⟩
 have hlo:=hR.lo
 have sb:∀ t,t < R.n→RB 4400 (aF R ps t):=fun t ht=>((hb.all hl t).div (room_ok hR ht).2 (by have:=(room_ok hR ht).1; grind)).mono (by decide)
 unfold m_top_of
 walk_at "w"
 refine ⟨R,ps,rfl,hR,hl,hb,fun _=>?_⟩
 walk_at "w"
 rw [enum_fr]
 refine forT_inv (enc:=fun (t:Nat)=>D.tup [.int (t:Int),frD (aF R ps t)]) (List.range R.n) (fun pre ρ=>∃ (b:Nat) (x4 x5:L),ρ=[.d (aR R),.d (.lst (ps.map frD)),.d (.lst (frL R.n (aF R ps))),.d (.int b),x4,x5]∧b=pre.foldl (fun b t=>if aF R ps b < aF R ps t then t else b) 0∧b < R.n) _ ⟨0,_,_,rfl,rfl,by omega⟩ ?_ ?_
 ·
  rintro pre t suf ρ hsp ⟨b,x4,x5,rfl,hbe,hbn⟩ Q h1 h2 h3 h4
  have ht:t < R.n:=List.mem_range.mp (by rw [hsp]; simp)
  have ef:(pre++[t]).foldl (fun b t=>if aF R ps b < aF R ps t then t else b) 0=if aF R ps b < aF R ps t then t else b:=by
   rw [List.foldl_append,← hbe]; rfl
  unfold b_top_of_0
  walk_at "w"
  refine ⟨_,frL_at hbn,_,_,rfl,(sb _ hbn).mono (by decide),(sb _ ht).mono (by decide),?_⟩
  walk_at "w"
  split
  ·
   rename_i hlt
   rw [if_pos hlt] at ef
   exact h1 _ ⟨t,_,_,rfl,ef.symm,ht⟩
  ·
   rename_i hlt
   rw [if_neg hlt] at ef
   exact h1 _ ⟨b,_,_,rfl,ef.symm,hbn⟩
 ·
  rintro ρ ⟨b,x4,x5,rfl,hbe,hbn⟩
  walk_at "w"
  refine ⟨_,frL_at hbn,by decide,_,ag (ag az),?_⟩
  have e:b=topI R.n (aF R ps):=hbe
  rw [e]
  exact h
def fs_are_ways:FS:=fun ls post=>∃ (R:Ring) (ws:List Bool),ls=[.d (aR R),.d (aQ ws)]∧R.Ok∧ws.length=R.asks.length∧post (.d (.bl true)) ls
def b_are_ways_0:W L:=(av fs_is_way (aVal (wVar 0) aNil))
def m_are_ways:W Fl:=(wSeq (wIf (wOr (wNot (aN (wUn (opIsT "list") (wVar 1)))) (aN (wBin opNe (aL bA (aVal (wVar 1) aNil)) (aL bA (aVal (wBin opIx (wVar 0) (wC (.int 1))) aNil))))) (wRet (wC (.bl false))) bt)
  (wRet (aL opAll (aVal (wFrz (cb 1 [] (wSrc (wVar 1)) (aK 0) b6 b_are_ways_0)) aNil))))
theorem sat_are_ways:∀ ls post,ls.length=2→fs_are_ways ls post→m_are_ways (ls++List.replicate 0 .un) (aE ls post):=by
 rintro ls post - ⟨R,ws,rfl,hR,hw,h⟩
 have few:=hR.few
 unfold m_are_ways
 rw [show aQ ws=.lst (ws.map fun b=>D.str (wayS b)) from rfl]
 walk_at "w"
 rw [if_neg (by omega)]
 walk_at "w"
 refine ⟨by rw [hw]; exact Nat.le_trans few (by decide),bm (enc:=fun b=>D.str (wayS b)) (h:=fun _=>D.bl true) ws _ _ (fun b hb Q hQ=>?_) fun l c=>?_⟩
 ·
  unfold b_are_ways_0
  walk_at "w"
  exact ⟨b,rfl,hQ⟩
 rw [List.nil_append]
 refine ⟨ws.map fun _=>true,by rw [List.map_map]; rfl,?_⟩
 walk_at "w"
 have e:(ws.map fun _=>true).all id=true:=by simp
 rw [e]
 exact ⟨_,ag (ag az),h⟩
def wparts (as:List Ask) (ws:List Bool):List Rat:=(as.zip ws).map fun x=>if x.2 then x.1.size else 0
theorem wparts_ok {R:Ring} (hR:R.Ok) (hT:∀ a∈R.asks,RB 60 a.size) {ws:List Bool} (hl:ws.length=R.asks.length):PartsOk R (wparts R.asks ws) 60:=by
 refine ⟨by simp [wparts,hl],fun x hx=>?_,fun p hp=>?_⟩
 ·
  obtain ⟨k,hk,rfl⟩:=List.mem_iff_getElem.mp hx
  rw [List.length_zip] at hk
  rw [List.getElem_zip]
  have hk2:k < R.asks.length:=by omega
  have e:(wparts R.asks ws)[k]'(by omega)=if ws[k]'(by omega) then R.asks[k].size else 0:=by
   simp [wparts]
  have h0:=(hR.ask _ (List.getElem_mem hk2)).size
  show 0≤(wparts R.asks ws)[k]'(by omega)∧(wparts R.asks ws)[k]'(by omega)≤R.asks[k].size
  rw [e]
  split
  ·
   exact ⟨h0,Rat.le_refl⟩
  ·
   exact ⟨by decide,h0⟩
 ·
  obtain ⟨x,hx,rfl⟩:=List.mem_map.mp hp
  obtain ⟨h1,_⟩:=List.of_mem_zip (a:=x.1) (b:=x.2) hx
  split
  ·
   exact hT _ h1
  ·
   exact RB.zero.mono (by decide)
def dg:FS:=fun ls post=>∃ (R:Ring) (ws:List Bool),ls=[.d (aR R),.d (.lst (ws.map fun w=>D.str (wayS w)))]∧R.asks.length≤20∧ws.length=R.asks.length∧∀ c,post (.own c ((wparts R.asks ws).map frD)) ls
def b_sent_by_0:W L:=(wIfE (aN (wBin opEq (wVar 1) (wC (.str "on")))) (wBin opIx (wVar 0) (wC (.int 3))) (wC (.tup [(.int 0),(.int 1)])))
def m_sent_by:W Fl:=(wRet (cb 2 [] (wZip (wBin opIx (wVar 0) (wC (.int 1))) (wVar 1)) (dj [0,1]) b6 b_sent_by_0))
theorem sat_sent_by:∀ ls post,ls.length=2→dg ls post→m_sent_by (ls++List.replicate 0 .un) (aE ls post):=by
 rintro ls post - ⟨R,ws,rfl,hfew,hl,h⟩
 unfold m_sent_by
 walk_at "w"
 have e:zipD (R.asks.map askD) (ws.map fun w=>D.str (wayS w))=(R.asks.zip ws).map fun x=>D.tup [askD x.1,D.str (wayS x.2)]:=by
  unfold zipD
  rw [List.zip_map,List.map_map]
  rfl
 rw [e]
 refine ⟨by rw [List.length_map,List.length_zip]; exact Nat.le_trans (show min R.asks.length ws.length≤20 by omega) (by decide),?_⟩
 refine comp_map2 (h:=fun x=>frD (if x.2 then x.1.size else 0)) _ _ _ _ (fun x hx Q q=>?_) fun l m a=>?_
 ·
  unfold b_sent_by_0
  walk_at "w"
  split
  ·
   rename_i c
   rw [if_pos c] at q
   exact q
  ·
   rename_i c
   rw [if_neg c] at q
   exact q
 ·
  walk_at "w"
  have:=h a
  unfold wparts at this
  rw [List.map_map] at this
  exact ⟨_,ag (ag az),this⟩
def fs_top_by:FS:=fun ls post=>∃ (R:Ring) (ws:List Bool),ls=[.d (aR R),.d (aQ ws)]∧R.Ok∧S61 R∧ws.length=R.asks.length∧post (.d (frD (topW R ws))) ls
def m_top_by:W Fl:=(wRet (wBin opIx (av fs_top_of (aVal (wVar 0) (aVal (wFrz (av dg (aVal (wVar 0) (aVal (wVar 1) aNil)))) aNil))) (wC (.int 0))))
theorem sat_top_by:∀ ls post,ls.length=2→fs_top_by ls post→m_top_by (ls++List.replicate 0 .un) (aE ls post):=by
 rintro ls post - ⟨R,ws,rfl,hR,hT,hw,h⟩
 unfold m_top_by
 walk_at "w"
 refine ⟨R,ws,rfl,hR.few,hw,fun c=>?_⟩
 walk_at "w"
 refine ⟨R,wprt R.asks ws,rfl,hR,wprt_len hw,LB.ways hR hT ws,?_⟩
 unfold topP
 walk_at "w"
 exact ⟨_,ag (ag az),h⟩
def bQ:FS:=fun ls post=>∃ (R:Ring) (ws:List Bool) (q:Rat),ls=[.d (aR R),.d (aQ ws),.d (frD q)]∧R.Ok∧S61 R∧ws.length=R.asks.length∧post (.d (.bl (decide (topW R ws=q)))) ls
def b8:W Fl:=(wRet (wAndV (av fs_are_ways (aVal (wVar 0) (aVal (wVar 1) aNil))) (wAndV (av fs_is_ratio (aVal (wVar 2) aNil)) (wBin opEq (av fs_top_by (aVal (wVar 0) (aVal (wVar 1) aNil))) (wVar 2)))))
theorem rat_yes (q:Rat):ratB (frD q)=true:=by
 show (decide (1≤(q.den:Int)) && decide ((Int.gcd q.num (q.den:Int):Int)=1))=true
 have h1:=q.den_pos
 have h2:=q.reduced
 have h3:Int.gcd q.num (q.den:Int)=1:=h2
 rw [h3,decide_eq_true (by omega)]
 rfl
theorem sat_are_ways_with_top:∀ ls post,ls.length=3→bQ ls post→b8 (ls++List.replicate 0 .un) (aE ls post):=by
 rintro ls post - ⟨R,ws,q,rfl,hR,hT,hw,h⟩
 unfold b8
 walk_at "w"
 refine ⟨R,ws,rfl,hR,hw,?_⟩
 walk_at "w"
 refine ⟨_,rfl,?_⟩
 rw [rat_yes]
 walk_at "w"
 refine ⟨R,ws,rfl,hR,hT,hw,?_⟩
 walk_at "w"
 exact ⟨_,ag (ag (ag az)),h⟩
def d7:FS:=fun ls post=>∃ (el ws:List (Option Bool)),ls=[.d (elD el),.d (elD ws)]∧ws.length≤99∧∀ a,post (.own a ((cx el ws).map fun (k:Nat)=>D.int (k:Int))) ls
def b_turned_by_0:W L:=(wVar 0)
def m_turned_by:W Fl:=(wSeq (wSet 2 (wFrz (wLZip (aVal (wVar 0) (aVal (wVar 1) aNil)))))
  (wRet (cb 2 [] (wEnum (wVar 2)) (dj [0,1]) (wAnd (aN (wBin opNotN (wBin opIx (wVar 1) (wC (.int 0))) (wC .non))) (aN (wBin opEq (wBin opIx (wVar 1) (wC (.int 1))) (av fs_other_way (aVal (wBin opIx (wVar 1) (wC (.int 0))) aNil))))) b_turned_by_0)))
theorem turn_fm (l:List ((Option Bool×Option Bool)×Nat)):(l.filterMap fun x=>if bE x.1=true then some (D.int (x.2:Int)) else none)=((l.filter fun x=>bE x.1).map (·.2)).map fun (k:Nat)=>D.int (k:Int):=by
 induction l with
 | nil=>rfl
 | cons x l ih =>
  rw [List.filterMap_cons,List.filter_cons]
  cases e:bE x.1
  ·
   simpa [e] using ih
  ·
   simpa [e] using ih
theorem enum_zip (el ws:List (Option Bool)):enumD (zipD (el.map optW) (ws.map optW))=(el.zip ws).zipIdx.map fun x=>D.tup [D.int (x.2:Int),D.tup [optW x.1.1,optW x.1.2]]:=by
 unfold enumD zipD
 rw [List.zip_map,List.map_map]
 refine List.ext_getElem (by simp) fun j h1 h2=>?_
 simp
theorem sat_turned_by:∀ ls post,ls.length=2→d7 ls post→m_turned_by (ls++List.replicate 1 .un) (aE ls post):=by
 rintro ls post - ⟨el,ws,rfl,hl,h⟩
 unfold m_turned_by elD
 walk_at "w"
 have zl:(zipD (el.map optW) (ws.map optW)).length≤99:=by simp [zipD]; omega
 refine ⟨Nat.le_trans zl (by decide),fun _=>?_⟩
 rw [enum_zip]
 refine ⟨by rw [List.length_map,List.length_zipIdx,List.length_zip]; exact Nat.le_trans (show min el.length ws.length≤99 by omega) (by decide),?_⟩
 refine comp_pure2 (e1:=fun x=>D.int (x.2:Int)) (e2:=fun x=>D.tup [optW x.1.1,optW x.1.2]) (h:=fun x=>if bE x.1=true then some (D.int (x.2:Int)) else none) ((el.zip ws).zipIdx) _ _ _ (fun x hx Q hQ=>?_) fun l m=>?_
 ·
  obtain ⟨⟨o,p⟩,k⟩:=x
  unfold b_turned_by_0
  cases o with
  | none =>
   have o1:optW none=.non:=rfl
   simp only [o1] at hQ ⊢
   walk_at "w"
   exact hQ
  | some b =>
   have o2:optW (some b)=.str (wayS b):=rfl
   simp only [o2] at hQ ⊢
   walk_at "w"
   refine ⟨b,rfl,?_⟩
   walk_at "w"
   refine ⟨optW_shape p,?_⟩
   rw [eqD_opt]
   have e:bE (some b,p)=(p == some !b):=rfl
   rw [e] at hQ
   cases hp:(p == some !b)
   ·
    rw [hp] at hQ
    simpa using hQ
   ·
    rw [hp] at hQ
    simpa using hQ
 ·
  intro a
  rw [List.nil_append,turn_fm]
  exact ⟨_,ag (ag az),h a⟩
def bR:FS:=fun ls post=>∃ (w:Wish) (x y:Int),ls=[.d (cf w),.d (.int x),.d (.int y)]∧post (.d (.bl (dc w.strict x y))) ls
def fO:W Fl:=(wRet (wOrV (wBin opGt (wVar 1) (wVar 2)) (wAndV (wBin opIx (wVar 0) (wC (.int 1))) (wBin opEq (wVar 1) (wVar 2)))))
theorem sat_is_too_much:∀ ls post,ls.length=3→bR ls post→fO (ls++List.replicate 0 .un) (aE ls post):=by
 rintro ls post - ⟨w,x,y,rfl,h⟩
 unfold fO
 unfold dc at h
 simp only [cf] at h ⊢
 walk_at "w"
 by_cases c:y < x
 ·
  rw [if_pos c]
  rw [decide_eq_true c,Bool.true_or] at h
  exact ⟨_,ag (ag (ag az)),h⟩
 ·
  rw [if_neg c]
  rw [decide_eq_false c,Bool.false_or] at h
  cases e:w.strict
  ·
   rw [e] at h
   simp only [Bool.false_eq_true,if_false]
   exact ⟨_,ag (ag (ag az)),h⟩
  ·
   rw [e] at h
   simp only [if_true]
   exact ⟨_,ag (ag (ag az)),h⟩
def bG:FS:=fun ls post=>∃ (w:Wish) (ws:List (Option Bool)),ls=[.d (cf w),.d (elD ws)]∧ws.length≤99∧post (.d (.bl (decide (w.most < (cx w.elder ws).length)))) ls
def eG:W Fl:=(wRet (wBin opGt (aL bA (aVal (wFrz (av d7 (aVal (wBin opIx (wVar 0) (wC (.int 2))) (aVal (wVar 1) aNil)))) aNil)) (wBin opIx (wVar 0) (wC (.int 3)))))
theorem sat_are_too_many:∀ ls post,ls.length=2→bG ls post→eG (ls++List.replicate 0 .un) (aE ls post):=by
 rintro ls post - ⟨w,ws,rfl,hl,h⟩
 unfold eG
 simp only [cf] at h ⊢
 walk_at "w"
 refine ⟨w.elder,ws,rfl,hl,fun a=>?_⟩
 walk_at "w"
 refine ⟨_,ag (ag az),?_⟩
 have e:decide (((w.most:Nat):Int) < ((cx w.elder ws).length:Int))=decide (w.most < (cx w.elder ws).length):=by rw [decide_eq_decide]; omega
 rw [e]
 exact h
def cL:FS:=fun ls post=>∃ (R:Ring) (w:Wish) (ws:List Bool),ls=[.d (aR R),.d (cf w),.d (aQ ws)]∧R.Ok∧(∀ a∈R.asks,RB 60 a.size)∧ws.length=R.asks.length∧RB 4300 w.top∧post (.d (ez R w ws (aF R (wprt R.asks ws)))) ls
def b_broken_wish_0:W Fl:=(wIf (aN (av bR (aVal (wVar 1) (aVal (wFrz (wBin aV (wBin opIx (wVar 5) (wC (.int 0))) (wBin opIx (wVar 3) (wC (.int 1))))) (aVal (wFrz (wBin aV (wBin opIx (wVar 3) (wC (.int 0))) (wBin opIx (wVar 5) (wC (.int 1))))) aNil))))) (wRet (wTup (aVal (wC (.str "load")) (aVal (wVar 4) aNil)))) bt)
def fP:W Fl:=(wSeq (wSet 3 (wBin opIx (wVar 1) (wC (.int 0))))
  (wSeq (wFor (wEnum (av df (aVal (wVar 0) (aVal (wFrz (av dg (aVal (wVar 0) (aVal (wVar 2) aNil)))) aNil)))) (dj [4,5]) b_broken_wish_0)
  (wSeq (wIf (aN (av bG (aVal (wVar 1) (aVal (wVar 2) aNil)))) (wRet (wTup (aVal (wC (.str "turned")) (aVal (wFrz (aL bA (aVal (wFrz (av d7 (aVal (wBin opIx (wVar 1) (wC (.int 2))) (aVal (wVar 2) aNil)))) aNil))) aNil)))) bt)
  (wRet (wC .non)))))
theorem sat_broken_wish:∀ ls post,ls.length=3→cL ls post→fP (ls++List.replicate 3 .un) (aE ls post):=by
 rintro ls post - ⟨R,w,ws,rfl,hR,hT,hl,hq,h⟩
 have few:=hR.few
 have hp:=wparts_ok hR hT hl
 have lb:LB R (wprt R.asks ws):=LB.of hR hT hp.rb (by decide)
 have sb:∀ t,t < R.n→RB 4300 (aF R (wprt R.asks ws) t):=fun t ht=>by
  obtain ⟨r1,r2⟩:=room_ok hR ht
  exact ((lb.all hp.len t).div r2 (by grind)).mono (by decide)
 have hl99:(ws.map some).length≤99:=by rw [List.length_map]; omega
 unfold fP
 have ix0:∀ k:L→Prop,opIx (cf w) (.int 0) k=k (.d (frD w.top)):=fun k=>by
  show (∃ v,atI _ _=some v∧_)=_
  simp only [atI_0,Option.some.injEq,exists_eq_left']
 have ix2:∀ k:L→Prop,opIx (cf w) (.int 2) k=k (.d (elD w.elder)):=fun k=>by
  show (∃ v,atI _ _=some v∧_)=_
  simp only [atI_2,Option.some.injEq,exists_eq_left']
 walk_at "w"
 rw [ix0]
 walk_at "w"
 refine ⟨R,ws,rfl,few,hl,fun _=>?_⟩
 walk_at "w"
 refine ⟨R,wprt R.asks ws,rfl,hR,hp.len,lb,fun _=>?_⟩
 walk_at "w"
 rw [enum_fr]
 refine forT_inv (enc:=fun (t:Nat)=>D.tup [.int (t:Int),frD (aF R (wprt R.asks ws) t)]) (List.range R.n) (fun pre ρ=>∃ x4 x5,ρ=[.d (aR R),.d (cf w),.d (aQ ws),.d (frD w.top),x4,x5]∧∀ j∈pre,muchQ w (aF R (wprt R.asks ws) j)=false) _ ⟨_,_,rfl,fun j hj=>by simp at hj⟩ ?_ ?_
 ·
  rintro pre k suf ρ hsp ⟨x4,x5,rfl,hpre⟩ Q h1 h2 h3 h4
  have hk:k < R.n:=List.mem_range.mp (by rw [hsp]; simp)
  have hpk:∀ j,j < k→j∈pre:=fun j hj=>by
   have e:pre=List.range k:=by
    have hl2:pre.length=k:=by
     have:(pre++k::suf)[pre.length]?=some k:=by simp
     rw [← hsp,List.getElem?_range (by have:=congrArg List.length hsp; simp at this; omega)] at this
     exact Option.some.inj this
    have:=congrArg (List.take k) hsp
    rw [List.take_range,Nat.min_eq_left (by omega),← hl2,List.take_left] at this
    rw [← this,hl2]
   rw [e]; exact List.mem_range.mpr hj
  have sk:=sb k hk
  unfold b_broken_wish_0
  walk_at "w"
  refine ⟨sk.bn (by decide),hq.bd (by decide),hq.bn (by decide),sk.bd (by decide),w,_,_,rfl,?_⟩
  rw [much_eq]
  walk_at "w"
  cases cc:muchQ w (aF R (wprt R.asks ws) k)
  ·
   simp only [Bool.false_eq_true,if_false]
   refine h1 _ ⟨_,_,rfl,fun j hj=>?_⟩
   rcases List.mem_append.mp hj with hj | hj
   ·
    exact hpre j hj
   ·
    rw [List.mem_singleton.mp hj]; exact cc
  ·
   simp only [if_true]
   refine ⟨by decide,h4 _ _ ?_⟩
   have e:=first_at (P:=fun t=>muchQ w (aF R (wprt R.asks ws) t)) hk cc fun j hj=>hpre j (hpk j hj)
   unfold ez at h
   rw [e] at h
   exact ⟨_,ag (ag (ag az)),h⟩
 ·
  rintro ρ ⟨x4,x5,rfl,hpre⟩
  have e:firstB (fun t=>muchQ w (aF R (wprt R.asks ws) t)) R.n=none:=first_none.mpr fun k hk=>hpre k (List.mem_range.mpr hk)
  unfold ez at h
  rw [e] at h
  walk_at "w"
  refine ⟨w,ws.map some,by rw [waysD_el],hl99,?_⟩
  walk_at "w"
  by_cases c:w.most < (cx w.elder (ws.map some)).length
  ·
   simp only [c,if_true] at h ⊢
   rw [ix2]
   refine ⟨w.elder,ws.map some,by rw [waysD_el],hl99,fun _=>?_⟩
   walk_at "w"
   exact ⟨by decide,_,ag (ag (ag az)),h⟩
  ·
   simp only [c,if_false] at h ⊢
   exact ⟨_,ag (ag (ag az)),h⟩
def fQ:FS:=fun ls post=>∃ (T:Tr),ls=[.d (trD T)]∧post (.d (.bl (T.kind == 2))) ls
def m_is_split:W Fl:=(wRet (av cj (aVal (wVar 0) (aVal (wC (.str "split")) (aVal (wC (.int 4)) aNil)))))
theorem sat_is_split:∀ ls post,ls.length=1→fQ ls post→m_is_split (ls++List.replicate 0 .un) (aE ls post):=by
 rintro ls post - ⟨T,rfl,h⟩
 unfold m_is_split
 walk_at "w"
 refine ⟨T,2,rfl,by decide,?_⟩
 exact ⟨_,ag az,h⟩
def fR:FS:=fun ls post=>∃ (R:Ring) (k:Nat) (o:Option Bool) (c:Nat×Nat),ls=[.d (aR R),.d (.int (k:Int)),.d (optW o),.d (cutP c)]∧R.Ok∧k < R.asks.length∧IsCut R.n c∧post (.d (.int (tovO R o c k))) ls
def b_times_over_0:W L:=(wVar 0)
def m_times_over:W Fl:=(wSeq (wIf (aN (wBin opIsN (wVar 2) (wC .non))) (wRet (wIfE (aN (av ck (aVal (wVar 3) (aVal (wBin opIx (wBin opIx (wBin opIx (wVar 0) (wC (.int 1))) (wVar 1)) (wC (.int 1))) (aVal (wBin opIx (wBin opIx (wBin opIx (wVar 0) (wC (.int 1))) (wVar 1)) (wC (.int 2))) aNil))))) (wC (.int 1)) (wC (.int 0)))) bt)
  (wRet (aL bA (aVal (wFrz (cb 1 [0,1,2] (wSrc (wVar 3)) (aK 0) (aN (av fg (aVal (wVar 1) (aVal (wVar 2) (aVal (wVar 3) (aVal (wVar 0) aNil)))))) b_times_over_0)) aNil))))
theorem sat_times_over:∀ ls post,ls.length=4→fR ls post→m_times_over (ls++List.replicate 0 .un) (aE ls post):=by
 rintro ls post - ⟨R,k,o,c,rfl,hR,hk,hc,h⟩
 unfold m_times_over
 cases o with
 | none =>
  unfold optW at *
  walk_at "w"
  refine ⟨_,et hk,?_⟩
  walk_at "w"
  refine ⟨_,et hk,?_⟩
  walk_at "w"
  refine ⟨c,_,_,rfl,?_⟩
  unfold tovO at h
  rw [db hk] at h
  dsimp only at h
  cases e:apart c R.asks[k].one R.asks[k].other
  ·
   rw [e] at h
   walk_at "w"
   exact ⟨_,ag (ag (ag (ag az))),h⟩
  ·
   rw [e] at h
   walk_at "w"
   exact ⟨_,ag (ag (ag (ag az))),h⟩
 | some b =>
  have t1:c.1 < R.n:=by have:=hc.1; have:=hc.2; omega
  have t2:c.2 < R.n:=hc.2
  unfold optW at *
  walk_at "w"
  show ((_:List D).length≤sizeLine∧_)
  refine ⟨by simp; decide,comp_pure (enc:=fun (t:Nat)=>D.int (t:Int)) (h:=fun t=>if (onA R k t == b)=true then some (D.int (t:Int)) else none) [c.1,c.2] _ _ (fun t ht Q hQ=>?_) fun l a=>?_⟩
  ·
   have ht':t < R.n:=by
    rcases List.mem_cons.mp ht with rfl | ht
    ·
     exact t1
    ·
     simp at ht
     subst ht
     exact t2
   walk_at "w"
   refine ⟨R,k,b,t,hk,rfl,hR,ht',?_⟩
   have e:onA R k t=isOn R.n R.asks[k] t:=by unfold onA; rw [db hk]
   rw [e] at hQ
   walk_at "w"
   cases eb:(isOn R.n R.asks[k] t == b)
   ·
    rw [eb] at hQ
    exact hQ
   ·
    rw [eb] at hQ
    unfold b_times_over_0
    walk_at "w"
    exact hQ
  ·
   walk_at "w"
   have e:(([c.1,c.2].filterMap fun t=>if (onA R k t == b)=true then some (D.int (t:Int)) else none).length:Int)=tovO R (some b) c k:=by
    unfold tovO
    cases e1:(onA R k c.1 == b) <;> cases e2:(onA R k c.2 == b) <;> simp only [List.filterMap_cons,List.filterMap_nil,e1,e2,if_true,Bool.false_eq_true,if_false] <;> rfl
   rw [e]
   exact ⟨_,ag (ag (ag (ag az))),h⟩
def eH:FS:=fun ls post=>∃ (R:Ring) (w:Wish) (u:Int) (fx:List (Option Bool)) (c:Nat×Nat),ls=[.d (aR R),.d (cf w),.d (.tup [.int u,.lst (intL R.asks.length (wI R w.top)),.lst (intL R.n (f0I R w.top))]),.d (elD fx),.d (cutP c)]∧R.Ok∧RB 1750 w.top∧fx.length=R.asks.length∧IsCut R.n c∧post (.d (.bl (dc w.strict (fullZ R w.top fx c) (f0I R w.top c.1+f0I R w.top c.2)))) ls
def b_is_too_full_0:W L:=(wBin aV (wVar 1) (av fR (aVal (wVar 2) (aVal (wVar 0) (aVal (wBin opIx (wVar 3) (wVar 0)) (aVal (wVar 4) aNil))))))
def fS:W Fl:=(wSeq (wSet 5 (wBin opIx (wVar 2) (wC (.int 2))))
  (wSeq (wSet 6 (wFrz (aL opSum (aVal (wFrz (cb 2 [0,3,4] (wEnum (wBin opIx (wVar 2) (wC (.int 1)))) (dj [0,1]) b6 b_is_too_full_0)) aNil))))
  (wRet (av bR (aVal (wVar 1) (aVal (wVar 6) (aVal (wFrz (wBin bI (wBin opIx (wVar 5) (wBin opIx (wVar 4) (wC (.int 0)))) (wBin opIx (wVar 5) (wBin opIx (wVar 4) (wC (.int 1)))))) aNil)))))))
theorem sat_is_too_full:∀ ls post,ls.length=5→eH ls post→fS (ls++List.replicate 2 .un) (aE ls post):=by
 rintro ls post - ⟨R,w,u,fx,c,rfl,hR,hq,hf,hc,h⟩
 have few:=hR.few
 have t1:c.1 < R.n:=by have:=hc.1; have:=hc.2; omega
 have t2:c.2 < R.n:=hc.2
 unfold fS
 walk_at "w"
 rw [enum_intL]
 refine ⟨by rw [List.length_map,List.length_range]; exact Nat.le_trans few (by decide),comp_map2 (e1:=fun (t:Nat)=>D.int (t:Int)) (e2:=fun t=>D.int (wI R w.top t)) (h:=fun t=>D.int (wI R w.top t*tov R fx c t)) (List.range R.asks.length) _ _ _ (fun t ht Q hQ=>?_) fun l m c2=>?_⟩
 ·
  have ht:=List.mem_range.mp ht
  unfold b_is_too_full_0 elD
  walk_at "w"
  refine ⟨_,el_at (by omega),?_⟩
  refine ⟨R,t,_,c,rfl,hR,ht,hc,?_⟩
  rw [tov_eq] at hQ
  walk_at "w"
  exact ⟨cJ (w_abs hR hq ht) (by decide),cJ (tovO_abs R _ c t) (by decide),hQ⟩
 rw [List.nil_append]
 walk_at "w"
 refine ⟨(List.range R.asks.length).map fun t=>wI R w.top t*tov R fx c t,by rw [List.map_map]; rfl,?_⟩
 rw [sum_range]
 walk_at "w"
 refine ⟨_,intL_at t1,_,intL_at t2,?_⟩
 refine ⟨w,_,_,rfl,?_⟩
 exact ⟨_,ag (ag (ag (ag (ag az)))),h⟩
def fs_can_stand:FS:=fun ls post=>∃ (R:Ring) (w:Wish) (u:Int) (fx:List (Option Bool)) (T:Tr),ls=[.d (aR R),.d (cf w),.d (.tup [.int u,.lst (intL R.asks.length (wI R w.top)),.lst (intL R.n (f0I R w.top))]),.d (elD fx),.d (trD T)]∧R.Ok∧RB 1750 w.top∧fx.length=R.asks.length∧T.Ok R w fx∧post (.d (.bl true)) ls
def m_can_stand:W Fl:=(wSeq (wIf (aN (av cj (aVal (wVar 4) (aVal (wC (.str "turned")) (aVal (wC (.int 1)) aNil))))) (wRet (av bG (aVal (wVar 1) (aVal (wVar 3) aNil)))) bt)
  (wSeq (wIf (aN (av cj (aVal (wVar 4) (aVal (wC (.str "cut")) (aVal (wC (.int 3)) aNil))))) (wRet (wAndV (av fs_is_cut (aVal (wVar 0) (aVal (wFrz (wSl2 (wVar 4) (some (wC (.int 1))) none)) aNil))) (av eH (aVal (wVar 0) (aVal (wVar 1) (aVal (wVar 2) (aVal (wVar 3) (aVal (wFrz (wSl2 (wVar 4) (some (wC (.int 1))) none)) aNil)))))))) bt)
  (wRet (wAndV (av fQ (aVal (wVar 4) aNil)) (wAndV (av ci (aVal (wBin opIx (wVar 4) (wC (.int 1))) (aVal (wFrz (aL bA (aVal (wVar 3) aNil))) aNil))) (wBin opIsN (wBin opIx (wVar 3) (wBin opIx (wVar 4) (wC (.int 1)))) (wC .non)))))))
theorem sat_can_stand:∀ ls post,ls.length=5→fs_can_stand ls post→m_can_stand (ls++List.replicate 0 .un) (aE ls post):=by
 rintro ls post - ⟨R,w,u,fx,T,rfl,hR,hq,hf,ht,h⟩
 have few:=hR.few
 unfold m_can_stand
 walk_at "w"
 refine ⟨T,0,rfl,by decide,?_⟩
 cases T with
 | turned =>
  have e:decide (w.most < (cx w.elder fx).length)=true:=decide_eq_true ht
  walk_at "w"
  rw [if_pos (show (Tr.turned.kind == 0)=true from rfl)]
  refine ⟨w,fx,rfl,by omega,?_⟩
  rw [e]
  exact ⟨_,ag (ag (ag (ag (ag az)))),h⟩
 | cut c =>
  walk_at "w"
  rw [if_neg (show ¬ ((Tr.cut c).kind == 0)=true from by simp [Tr.kind])]
  refine ⟨.cut c,1,rfl,by decide,?_⟩
  walk_at "w"
  rw [if_pos (show ((Tr.cut c).kind == 1)=true from rfl)]
  have ec:cutD [D.str "cut",.int (c.1:Int),.int (c.2:Int)] (some 1) none=[.int (c.1:Int),.int (c.2:Int)]:=rfl
  have eb:cutB R.n (cutP c)=true:=decide_eq_true ⟨by omega,by have:=ht.1.1; omega,by have:=ht.1.2; omega⟩
  have ne:¬ (HT.sIx 3 0 (some 1)=0∧HT.sIx 3 3 none=3):=by decide
  unfold trD at h ⊢
  walk_at "w"
  rw [ec]
  refine ⟨ne,R,cutP c,rfl,?_⟩
  rw [eb]
  walk_at "w"
  refine ⟨ne,R,w,u,fx,c,rfl,hR,hq,hf,ht.1,?_⟩
  rw [ht.2]
  exact ⟨_,ag (ag (ag (ag (ag az)))),h⟩
 | split k a b =>
  have hk:=ht.1
  have hn:=ht.2.1
  walk_at "w"
  rw [if_neg (show ¬ ((Tr.split k a b).kind == 0)=true from by simp [Tr.kind])]
  refine ⟨.split k a b,1,rfl,by decide,?_⟩
  walk_at "w"
  rw [if_neg (show ¬ ((Tr.split k a b).kind == 1)=true from by simp [Tr.kind])]
  refine ⟨.split k a b,rfl,?_⟩
  walk_at "w"
  rw [if_pos (show ((Tr.split k a b).kind == 2)=true from rfl)]
  unfold trD elD at h ⊢
  walk_at "w"
  refine ⟨_,_,rfl,?_⟩
  rw [decide_eq_true (show 0≤(k:Int)∧(k:Int) < (fx.length:Int) by omega)]
  walk_at "w"
  refine ⟨_,el_at hk,?_⟩
  rw [hn]
  exact ⟨_,ag (ag (ag (ag (ag az)))),h⟩
def d8:FS:=fun ls post=>∃ (k:Nat) (a b:Tr) (fx:List (Option Bool)) (ws:List Bool) (d:Bool),ls=[.d (waitD ⟨.split k a b,fx,ws⟩),.d (.str (wayS d))]∧k < fx.length∧fx.length≤20∧ws.length≤300∧post (.d (waitD ⟨if d then a else b,fx.set k (some d),ws++[d]⟩)) ls
def m_branch_of:W Fl:=(wSeq (wSet 2 (wBin opIx (wVar 0) (wC (.int 0))))
  (wSeq (wSet 3 (aL opList (aVal (wBin opIx (wVar 0) (wC (.int 1))) aNil)))
  (wSeq (wSetV 3 (wBin opIx (wVar 2) (wC (.int 1))) (wVar 1))
  (wRet (wTup (aVal (wIfE (aN (wBin opEq (wVar 1) (wC (.str "on")))) (wBin opIx (wVar 2) (wC (.int 2))) (wBin opIx (wVar 2) (wC (.int 3)))) (aVal (wVar 3) (aVal (wFrz (wBin bI (wBin opIx (wVar 0) (wC (.int 2))) (wLst (aVal (wVar 1) aNil)))) aNil))))))))
theorem sat_branch_of:∀ ls post,ls.length=2→d8 ls post→m_branch_of (ls++List.replicate 2 .un) (aE ls post):=by
 rintro ls post - ⟨k,a,b,fx,ws,d,rfl,hk,hx,hw,h⟩
 unfold m_branch_of waitD trD elD aQ
 walk_at "w"
 have ix:ixN fx.length (k:Int)=some k:=by
  have:=intL_ix (n:=fx.length) (f:=fun _=>0) hk
  rwa [intL_len] at this
 have e1:(fx.map optW).set k (.str (wayS d))=(fx.set k (some d)).map optW:=by rw [List.map_set]; rfl
 have e2:(ws.map fun w=>D.str (wayS w))++[.str (wayS d)]=(ws++[d]).map fun w=>D.str (wayS w):=by rw [List.map_append]; rfl
 refine fun a1=>⟨k,ix,?_⟩
 rw [e1,e2]
 cases d
 all_goals
  simp only [if_true,Bool.false_eq_true,if_false] at h ⊢
  exact ⟨by decide,fun a2=>⟨Nat.le_trans (show ws.length+1≤301 by omega) (by decide),fun a3=>⟨by decide,_,ag (ag az),h⟩⟩⟩
def cm:FS:=fun ls post=>∃ (R:Ring) (w:Wish) (T:Tr),ls=[.d (aR R),.d (cf w),.d (trD T)]∧R.Ok∧RB 1750 w.top∧T.Ok R w (List.replicate R.asks.length none)∧T.size≤300∧post (.d .non) ls
def b_look_at_tree_0:W Fl:=(wSeq (wSet 6 (wFrz (wPop 4)))
  (wSeq (wAug 5 (fun i j=>i+j) (wC (.int 1)))
  (wSeq (wIf (wOr (aN (wBin opGt (wVar 5) (wC (.int 300)))) (wNot (aN (av fs_can_stand (aVal (wVar 0) (aVal (wVar 1) (aVal (wVar 3) (aVal (wBin opIx (wVar 6) (wC (.int 1))) (aVal (wBin opIx (wVar 6) (wC (.int 0))) aNil))))))))) wNever bt)
  (wIf (aN (av fQ (aVal (wBin opIx (wVar 6) (wC (.int 0))) aNil))) (wSeq (wDrop (wApp 4 (av d8 (aVal (wVar 6) (aVal (wC (.str "back")) aNil)))))
  (wDrop (wApp 4 (av d8 (aVal (wVar 6) (aVal (wC (.str "on")) aNil)))))) bt))))
def b_look_at_tree_1:W L:=(wC .non)
def eI:W Fl:=(wSeq (wSet 3 (wFrz (av fs_weighed (aVal (wVar 0) (aVal (wBin opIx (wVar 1) (wC (.int 0))) aNil)))))
  (wSeq (wSet 4 (wLst (aVal (wTup (aVal (wVar 2) (aVal (wFrz (cb 1 [] (wSrc (wBin opIx (wVar 0) (wC (.int 1)))) (aK 0) b6 b_look_at_tree_1)) (aVal (wFrz (wLst aNil)) aNil)))) aNil)))
  (wSeq (wSet 5 (wC (.int 0)))
  (wWhile (wTru 4) b_look_at_tree_0))))
theorem none_ask (as:List Ask):(as.map fun _=>D.non)=(List.replicate as.length none).map optW:=by
 rw [List.map_replicate]
 exact List.map_const' ..
theorem d9 (xs:List Wait) (x:Wait):waitN (xs++[x])=waitN xs+x.tr.size:=by simp [waitN]
theorem wait_len:∀ xs:List Wait,xs.length≤waitN xs
 | []=>Nat.zero_le _
 | x::xs=>by
  have h1:=wait_len xs
  have h2:=x.tr.size_pos
  have e:waitN (x::xs)=x.tr.size+waitN xs:=by simp [waitN]
  rw [List.length_cons,e]
  omega
theorem sat_look_at_tree:∀ ls post,ls.length=3→cm ls post→eI (ls++List.replicate 4 .un) (aE ls post):=by
 rintro ls post - ⟨R,w,T,rfl,hR,hq,ht,hs,h⟩
 have few:=hR.few
 unfold eI
 rw [show cf w=.tup [frD w.top,.bl w.strict,elD w.elder,.int (w.most:Int)] from rfl]
 walk_at "w"
 refine ⟨R,w.top,rfl,hR,hq,?_⟩
 walk_at "w"
 refine ⟨Nat.le_trans few (by decide),bm (enc:=askD) (h:=fun _=>D.non) R.asks _ _ (fun a ha Q hQ=>?_) fun l c=>?_⟩
 ·
  unfold b_look_at_tree_1
  walk_at "w"
  exact hQ
 rw [List.nil_append,none_ask]
 walk_at "w"
 refine ⟨by decide,fun _=>⟨by decide,by decide,fun a=>?_⟩⟩
 refine ⟨fun n ρ=>∃ (c:Addr) (xs:List Wait) (m:Nat) (x6:L),ρ=[.d (aR R),.d (cf w),.d (trD T),.d (.tup [.int (aP R w.top),.lst (intL R.asks.length (wI R w.top)),.lst (intL R.n (f0I R w.top))]),.own c (xs.map waitD),.d (.int (m:Int)),x6]∧(∀ x∈xs,x.tr.Ok R w x.fixed∧x.fixed.length=R.asks.length∧x.ways.length≤m)∧m+waitN xs≤300∧n=waitN xs,⟨_,a,[⟨T,List.replicate R.asks.length none,[]⟩],0,.un,rfl,fun x hx=>?_,?_,rfl⟩,?_⟩
 ·
  simp at hx
  subst hx
  exact ⟨ht,by simp,by simp⟩
 ·
  simp [waitN]
  exact hs
 rintro n ρ ⟨c,xs,m,x6,rfl,ok,hm,rfl⟩
 unfold wTru
 walk_at "w"
 rcases List.eq_nil_or_concat xs with rfl | ⟨ys,x,rfl⟩
 ·
  rw [if_neg (by simp)]
  exact ⟨_,ag (ag (ag az)),h⟩
 simp only [List.concat_eq_append] at ok hm ⊢
 rw [d9] at hm
 obtain ⟨xo,xf,xw⟩:=ok x (by simp)
 have oky:∀ y∈ys,y.tr.Ok R w y.fixed∧y.fixed.length=R.asks.length∧y.ways.length≤m+1:=fun y hy=>by
  obtain ⟨h1,h2,h3⟩:=ok y (List.mem_append_left _ hy)
  exact ⟨h1,h2,by omega⟩
 have sp:=x.tr.size_pos
 rw [if_pos (by simp)]
 unfold b_look_at_tree_0
 walk_at "w"
 refine ⟨waitD x,by simp,?_⟩
 rw [show ((ys++[x]).map waitD).dropLast=ys.map waitD by simp]
 unfold wAug
 walk_at "w"
 rw [augW_int,if_neg (by omega)]
 rw [show waitD x=.tup [trD x.tr,elD x.fixed,aQ x.ways] from rfl]
 walk_at "w"
 refine ⟨R,w,_,x.fixed,x.tr,rfl,hR,hq,xf,xo,?_⟩
 walk_at "w"
 refine ⟨x.tr,rfl,?_⟩
 walk_at "w"
 have wl:=wait_len ys
 have big:(600:Nat) < sizeLine:=by decide
 obtain ⟨tr,fx,vs⟩:=x
 cases tr with
 | turned =>
  rw [if_neg (by simp [Tr.kind])]
  exact ⟨waitN ys,by rw [d9]; omega,c,ys,m+1,_,rfl,oky,by omega,rfl⟩
 | cut d =>
  rw [if_neg (by simp [Tr.kind])]
  exact ⟨waitN ys,by rw [d9]; omega,c,ys,m+1,_,rfl,oky,by omega,rfl⟩
 | split k p q =>
  have sz:(Tr.split k p q).size=p.size+q.size+1:=rfl
  dsimp only at xo xf xw hm sp
  obtain ⟨kl,kn,po,qo⟩:=xo
  rw [if_pos (by rfl)]
  refine ⟨k,p,q,fx,vs,false,rfl,kl,by omega,by omega,?_⟩
  walk_at "w"
  refine ⟨by omega,k,p,q,fx,vs,true,rfl,kl,by omega,by omega,?_⟩
  simp only [if_true,Bool.false_eq_true,if_false,List.length_append,List.length_map,List.length_cons,List.length_nil]
  refine ⟨by omega,_,?_,c,ys++[⟨q,fx.set k (some false),vs++[false]⟩]++[⟨p,fx.set k (some true),vs++[true]⟩],m+1,.d (waitD ⟨.split k p q,fx,vs⟩),?_,fun y hy=>?_,?_,rfl⟩
  ·
   rw [d9,d9,d9,sz]
   dsimp only
   omega
  ·
   rw [List.map_append,List.map_append]
   rfl
  ·
   rcases List.mem_append.mp hy with hy | hy
   ·
    rcases List.mem_append.mp hy with hy | hy
    ·
     exact oky y hy
    ·
     simp at hy
     subst hy
     exact ⟨qo,by simp; exact xf,by simp; exact xw⟩
   ·
    simp at hy
    subst hy
    exact ⟨po,by simp; exact xf,by simp; exact xw⟩
  ·
   rw [d9,d9]
   dsimp only
   omega
def fs_is_tree:FS:=fun ls post=>∃ (R:Ring) (w:Wish) (T:Tr),ls=[.d (aR R),.d (cf w),.d (trD T)]∧R.Ok∧RB 1750 w.top∧T.Ok R w (List.replicate R.asks.length none)∧T.size≤300∧post (.d (.bl true)) ls
def m_is_tree:W Fl:=(wSeq (wDrop (av cm (aVal (wVar 0) (aVal (wVar 1) (aVal (wVar 2) aNil)))))
  (wRet (wC (.bl true))))
theorem sat_is_tree:∀ ls post,ls.length=3→fs_is_tree ls post→m_is_tree (ls++List.replicate 0 .un) (aE ls post):=by
 rintro ls post - ⟨R,w,T,rfl,hR,hq,ht,hs,h⟩
 unfold m_is_tree
 walk_at "w"
 refine ⟨R,w,T,rfl,hR,hq,ht,hs,?_⟩
 exact ⟨_,ag (ag (ag az)),h⟩
def cF:FS:=fun ls post=>∃ (R:Ring) (w:Wish) (ws:List Bool),ls=[.d (cf w),.d (rowD R w.top ws.length),.d (aQ ws),.d (.lst (intL R.n (ldZ R w.top ws)))]∧R.Ok∧ws.length≤R.asks.length ∧
 (∀ T:Tr,T.Ok R w (prefO R.asks.length ws)→(∃ x xs,trD T=.tup (x::xs))→T.size=1→post (.d (trD T)) ls)∧(FreeW R w ws→post (.d .non) ls)
def ee:W Fl:=(wIf (aN (av bR (aVal (wVar 0) (aVal (wFrz (wBin bI (wBin opIx (wVar 3) (wBin opIx (wVar 4) (wC (.int 0)))) (wBin opIx (wVar 3) (wBin opIx (wVar 4) (wC (.int 1)))))) (aVal (wVar 5) aNil))))) (wRet (wTup (aVal (wC (.str "cut")) (aVal (wBin opIx (wVar 4) (wC (.int 0))) (aVal (wBin opIx (wVar 4) (wC (.int 1))) aNil))))) bt)
def c6:W Fl:=(wSeq (wIf (aN (av bG (aVal (wVar 0) (aVal (wVar 2) aNil)))) (wRet (wTup (aVal (wC (.str "turned")) aNil))) bt)
  (wSeq (wFor (wSrc (wVar 1)) (dj [4,5]) ee)
  (wRet (wC .non))))
theorem sat_reason_against:∀ ls post,ls.length=4→cF ls post→c6 (ls++List.replicate 2 .un) (aE ls post):=by
 rintro ls post - ⟨R,w,ws,rfl,hR,hw,ht,hf⟩
 have few:=hR.few
 unfold c6
 walk_at "w"
 refine ⟨w,ws.map some,by rw [waysD_el],by rw [List.length_map]; omega,?_⟩
 walk_at "w"
 by_cases c:w.most < (cx w.elder (ws.map some)).length
 ·
  simp only [c,if_true]
  refine ⟨by decide,_,ag (ag (ag (ag az))),ht .turned ?_ ⟨_,_,rfl⟩ rfl⟩
  show w.most < (cx w.elder (prefO R.asks.length ws)).length
  rw [turn_pref]
  exact c
 ·
  simp only [c,if_false]
  rw [show rowD R w.top ws.length=.lst ((cutsL R.n).map fun c=>D.tup [cutP c,.int (bndZ R w.top ws.length c)]) from rfl]
  walk_at "w"
  refine forT_inv (enc:=fun c=>D.tup [cutP c,.int (bndZ R w.top ws.length c)]) (cutsL R.n) (fun pre ρ=>∃ x4 x5,ρ=[.d (cf w),.d (rowD R w.top ws.length),.d (aQ ws),.d (.lst (intL R.n (ldZ R w.top ws))),x4,x5]∧∀ c∈pre,dc w.strict (ldZ R w.top ws c.1+ldZ R w.top ws c.2) (bndZ R w.top ws.length c)=false) _ ⟨_,_,rfl,fun c hc=>by simp at hc⟩ ?_ ?_
  ·
   rintro pre c suf ρ hsp ⟨x4,x5,rfl,hpre⟩ Q h1 h2 h3 h4
   have hc:IsCut R.n c:=mem_cuts.mp (by rw [hsp]; simp)
   have c1:c.1 < R.n:=by have:=hc.1; have:=hc.2; omega
   unfold ee
   walk_at "w"
   refine ⟨_,intL_at c1,_,intL_at hc.2,?_⟩
   walk_at "w"
   refine ⟨w,_,_,rfl,?_⟩
   walk_at "w"
   cases e:dc w.strict (ldZ R w.top ws c.1+ldZ R w.top ws c.2) (bndZ R w.top ws.length c)
   ·
    simp only [Bool.false_eq_true,if_false]
    refine h1 _ ⟨_,_,rfl,fun d hd=>?_⟩
    rcases List.mem_append.mp hd with hd | hd
    ·
     exact hpre d hd
    ·
     rw [List.mem_singleton.mp hd]; exact e
   ·
    simp only [if_true]
    refine ⟨by decide,h4 _ _ ⟨_,ag (ag (ag (ag az))),ht (.cut c) ⟨hc,?_⟩ ⟨_,_,rfl⟩ rfl⟩⟩
    rw [← much_pref hw]
    exact e
  ·
   rintro ρ ⟨x4,x5,rfl,hpre⟩
   walk_at "w"
   exact ⟨_,ag (ag (ag (ag az))),hf ⟨fun c hc=>hpre c (mem_cuts.mpr hc),by omega⟩⟩
def bH (n:Nat):FS:=fun ls post=>∃ (R:Ring) (w:Wish) (ws:List Bool),ls=[.d (aR R),.d (cf w),.d (.lst (intL R.asks.length (wI R w.top))),.d (.lst (rowsL R w.top)),.d (aQ ws),.d (.lst (intL R.n (ldZ R w.top ws)))]∧R.Ok∧ws.length≤R.asks.length∧R.asks.length - ws.length < n∧R.asks.length≤7 ∧
 (∀ ws':List Bool,ws'.length=R.asks.length→dW R w ws'→post (.d (.tup [.str "ways",aQ ws'])) ls)∧∀ T:Tr,T.Ok R w (prefO R.asks.length ws)→T.size+1≤2 ^ (R.asks.length - ws.length+1)→post (.d (.tup [.str "none",trD T])) ls
theorem no_searched (ls:List L) (post:L→List L→Prop):¬ bH 0 ls post:=by
 rintro ⟨R,w,ws,_,_,_,h,_⟩
 omega
abbrev fs_searched:FS:=bH 9
def b_searched_0 (self:FS):W L:=(wBin bI (wVar 1) (wIfE (aN (av fg (aVal (wVar 2) (aVal (wVar 3) (aVal (wVar 4) (aVal (wVar 0) aNil)))))) (wBin opIx (wVar 5) (wVar 3)) (wC (.int 0))))
def b_searched_1 (self:FS):W Fl:=(wSeq (wSet 10 (cb 2 [0,6,9,2] (wEnum (wVar 5)) (dj [0,1]) b6 (b_searched_0 self)))
  (wSeq (wSet 11 (av self (aVal (wVar 0) (aVal (wVar 1) (aVal (wVar 2) (aVal (wVar 3) (aVal (wFrz (wBin bI (wVar 4) (wLst (aVal (wVar 9) aNil)))) (aVal (wVar 10) aNil))))))))
  (wSeq (wIf (aN (wBin opEq (wBin opIx (wVar 11) (wC (.int 0))) (wC (.str "ways")))) (wRet (wMove 11)) bt)
  (wDrop (wApp 8 (wBin opIx (wVar 11) (wC (.int 1))))))))
def c_searched_5 (self:FS):W Fl:=(wRet (wTup (aVal (wC (.str "none")) (aVal (wTup (aVal (wC (.str "split")) (aVal (wVar 6) (aVal (dU 8 (wIxV 8 (wC (.int 0))) (wBin opIx (wVar 8) (wC (.int 0)))) (aVal (dU 8 (wIxV 8 (wC (.int 1))) (wBin opIx (wVar 8) (wC (.int 1)))) aNil))))) aNil))))
def c_searched_4 (self:FS):W Fl:=(wSeq (wFor (wSrc (wTup (aVal (wC (.str "on")) (aVal (wC (.str "back")) aNil)))) (aK 9) (b_searched_1 self))
  (c_searched_5 self))
def c_searched_3 (self:FS):W Fl:=(wSeq (wSet 8 (wLst aNil))
  (c_searched_4 self))
def c_searched_2 (self:FS):W Fl:=(wSeq (wIf (aN (wBin opEq (wVar 6) (aL bA (aVal (wVar 2) aNil)))) (wRet (wTup (aVal (wC (.str "ways")) (aVal (wVar 4) aNil)))) bt)
  (c_searched_3 self))
def c_searched_1 (self:FS):W Fl:=(wSeq (wIf (aN (wBin opNotN (wVar 7) (wC .non))) (wRet (wTup (aVal (wC (.str "none")) (aVal (wVar 7) aNil)))) bt)
  (c_searched_2 self))
def c_searched_0 (self:FS):W Fl:=(wSeq (wSet 7 (wFrz (av cF (aVal (wVar 1) (aVal (wBin opIx (wVar 3) (wBin opSub (aL bA (aVal (wVar 2) aNil)) (wVar 6))) (aVal (wVar 4) (aVal (wVar 5) aNil)))))))
  (c_searched_1 self))
def m_searched (self:FS):W Fl:=(wSeq (wSet 6 (wFrz (aL bA (aVal (wVar 4) aNil))))
  (c_searched_0 self))
theorem rows_at {R:Ring} {q:Rat} {k:Nat} (h:k≤R.asks.length):atI (rowsL R q) ((R.asks.length:Int) - (k:Int))=some (rowD R q k):=by
 have e:((R.asks.length:Int) - (k:Int))=((R.asks.length - k:Nat):Int):=by omega
 rw [e]
 unfold rowsL
 rw [et (by rw [List.length_range]; omega),List.getElem_range]
 congr 2
 omega
theorem enum_int (n:Nat) (f:Nat→Int):enumD (intL n f)=(List.range n).map fun (t:Nat)=>D.tup [.int (t:Int),.int (f t)]:=by
 unfold enumD intL
 refine List.ext_getElem (by simp) fun j h1 h2=>?_
 simp
theorem sh_ways:bf (.str "ways"):=bj (n:=0) (by decide +kernel) (by decide)
theorem sh_none:bf (.str "none"):=bj (n:=0) (by decide +kernel) (by decide)
theorem sat_searched:∀ n ls post,ls.length=6→bH (n+1) ls post→m_searched (bH n) (ls++List.replicate 6 .un) (aE ls post):=by
 rintro n ls post - ⟨R,w,ws,rfl,hR,hw,hn,h7,hk,hT⟩
 have hi:=hR.hi
 have wl:(ws.map fun b=>D.str (wayS b)).length=ws.length:=by simp
 unfold m_searched
 rw [show aQ ws=.lst (ws.map fun b=>D.str (wayS b)) from rfl]
 walk_at "w"
 unfold c_searched_0
 walk_at "w"
 rw [intL_len]
 refine ⟨_,rows_at hw,?_⟩
 refine ⟨R,w,ws,rfl,hR,hw,fun T ht hd hz=>?_,fun hf=>?_⟩
 ·
  obtain ⟨x,xs,ex⟩:=hd
  unfold c_searched_1
  have pw:2 ^ 1≤2 ^ (R.asks.length - ws.length+1):=Nat.pow_le_pow_right (by decide) (by omega)
  have e2:=hT T ht (by rw [hz]; omega)
  rw [ex] at e2 ⊢
  walk_at "w"
  exact ⟨by decide,_,ag (ag (ag (ag (ag (ag az))))),e2⟩
 ·
  unfold c_searched_1
  walk_at "w"
  unfold c_searched_2
  walk_at "w"
  rw [intL_len]
  by_cases ek:ws.length=R.asks.length
  ·
   rw [if_pos (by omega)]
   exact ⟨by decide,_,ag (ag (ag (ag (ag (ag az))))),hk ws ek (free_keeps hR ek hf)⟩
  ·
   rw [if_neg (by omega)]
   have lt:ws.length < R.asks.length:=by omega
   unfold c_searched_3
   walk_at "w"
   refine ⟨by decide,fun c1=>?_⟩
   unfold c_searched_4
   walk_at "w"
   refine ⟨by decide,?_⟩
   have turn:∀ (b:Bool) (x9 x10 x11:L) (ts:List D) (Q:Fl→Ev→Prop),ts.length≤1 →
     (∀ r ρ',aE [.d (aR R),.d (cf w),.d (.lst (intL R.asks.length (wI R w.top))),.d (.lst (rowsL R w.top)),.d (.lst (ws.map fun b=>D.str (wayS b))),.d (.lst (intL R.n (ldZ R w.top ws)))] post (.rt r) ρ'→Q (.rt r) ρ') →
     (∀ T:Tr,T.Ok R w (prefO R.asks.length (ws++[b]))→T.size+1≤2 ^ (R.asks.length - (ws++[b]).length+1)→∀ x10 x11,Q .nx [.d (aR R),.d (cf w),.d (.lst (intL R.asks.length (wI R w.top))),.d (.lst (rowsL R w.top)),.d (.lst (ws.map fun b=>D.str (wayS b))),.d (.lst (intL R.n (ldZ R w.top ws))),.d (.int (ws.length:Int)),.d .non,.own c1 (ts++[trD T]),.d (.str (wayS b)),x10,x11]) →
     b_searched_1 (bH n) [.d (aR R),.d (cf w),.d (.lst (intL R.asks.length (wI R w.top))),.d (.lst (rowsL R w.top)),.d (.lst (ws.map fun b=>D.str (wayS b))),.d (.lst (intL R.n (ldZ R w.top ws))),.d (.int (ws.length:Int)),.d .non,.own c1 ts,.d (.str (wayS b)),x10,x11] Q:=by
    intro b x9 x10 x11 ts Q htl hrt hnx
    unfold b_searched_1
    walk_at "w"
    rw [enum_int]
    refine ⟨by rw [List.length_map,List.length_range]; exact Nat.le_trans hi (by decide),comp_map2 (e1:=fun (t:Nat)=>D.int (t:Int)) (e2:=fun t=>D.int (ldZ R w.top ws t)) (h:=fun t=>D.int (ldZ R w.top (ws++[b]) t)) (List.range R.n) _ _ _ (fun t ht Q hQ=>?_) fun l m c2=>?_⟩
    ·
     have ht:=List.mem_range.mp ht
     unfold b_searched_0
     walk_at "w"
     refine ⟨R,ws.length,b,t,lt,rfl,hR,ht,?_⟩
     walk_at "w"
     have la:=ld_app R w.top ws b t
     unfold onA at la
     rw [db lt] at la
     cases eo:(isOn R.n R.asks[ws.length] t == b)
     ·
      rw [eo] at la
      simp only [Bool.false_eq_true,if_false] at la ⊢
      rw [la] at hQ
      exact hQ
     ·
      rw [eo] at la
      simp only [if_true] at la ⊢
      refine ⟨_,intL_at lt,?_⟩
      rw [la] at hQ
      walk_at "w"
      exact hQ
    rw [List.nil_append,show ((List.range R.n).map fun t=>D.int (ldZ R w.top (ws++[b]) t))=intL R.n (ldZ R w.top (ws++[b])) from rfl]
    walk_at "w"
    refine ⟨by decide,fun a1=>⟨Nat.le_trans (show ws.length+1≤8 by omega) (by decide),fun a2=>?_⟩⟩
    refine ⟨R,w,ws++[b],by rw [aQ,List.map_append]; rfl,hR,by simp; omega,by simp; omega,h7,fun ws' hl hk'=>?_,fun T ht hz=>?_⟩
    ·
     have e2:=hk ws' hl hk'
     walk_at "w"
     refine ⟨sh_ways,sh_ways,hrt _ _ ⟨_,ag (ag (ag (ag (ag (ag az))))),e2⟩⟩
    ·
     have e2:=hnx T ht hz
     walk_at "w"
     refine ⟨sh_none,sh_ways,?_⟩
     rw [if_neg (by decide)]
     exact ⟨Nat.lt_of_le_of_lt htl (by decide),e2 _ _⟩
   rw [dk]
   refine turn true .un .un .un [] _ (by decide) (fun r ρ' h=>h) fun T1 t1 z1 x10 x11=>?_
   dsimp only
   rw [dk]
   refine turn false .un x10 x11 [trD T1] _ (Nat.le_refl 1) (fun r ρ' h=>h) fun T2 t2 z2 x10 x11=>?_
   dsimp only
   rw [dk]
   dsimp only
   unfold c_searched_5
   have pw:2 ^ (R.asks.length - ws.length+1)=2*2 ^ (R.asks.length - (ws.length+1)+1):=by rw [show R.asks.length - ws.length+1=R.asks.length - (ws.length+1)+1+1 by omega,Nat.pow_succ]; omega
   rw [List.length_append,List.length_singleton] at z1 z2
   have sz:(Tr.split ws.length T1 T2).size=T1.size+T2.size+1:=rfl
   have e2:=hT (.split ws.length T1 T2) ⟨by rw [pref_len hw]; exact lt,by rw [pref_at,dif_neg (Nat.lt_irrefl _)],by rw [pref_set lt]; exact t1,by rw [pref_set lt]; exact t2⟩ (by rw [sz,pw]; omega)
   rw [trD] at e2
   walk_at "w"
   exact ⟨by decide,by decide,_,ag (ag (ag (ag (ag (ag az))))),e2⟩
def fs_bounds_of:FS:=fun ls post=>∃ (R:Ring) (q:Rat) (u:Int),ls=[.d (aR R),.d (.tup [.int u,.lst (intL R.asks.length (wI R q)),.lst (intL R.n (f0I R q))])]∧R.Ok∧∀ c,post (.own c (rowsL R q)) ls
def b_bounds_of_0:W L:=(wTup (aVal (wVar 0) (aVal (wBin opSub (wVar 1) (wIfE (aN (av ck (aVal (wVar 0) (aVal (wBin opIx (wVar 2) (wC (.int 1))) (aVal (wBin opIx (wVar 2) (wC (.int 2))) aNil))))) (wVar 3) (wC (.int 0)))) aNil)))
def b_bounds_of_1:W Fl:=(wDrop (wApp 3 (cb 2 [4,5] (wSrc (dU 3 (wIxV 3 (wUn opNeg (wC (.int 1)))) (wBin opIx (wVar 3) (wUn opNeg (wC (.int 1)))))) (dj [0,1]) b6 b_bounds_of_0)))
def b_bounds_of_2:W L:=(wTup (aVal (wVar 0) (aVal (wFrz (wBin bI (wBin opIx (wVar 1) (wBin opIx (wVar 0) (wC (.int 0)))) (wBin opIx (wVar 1) (wBin opIx (wVar 0) (wC (.int 1)))))) aNil)))
def m_bounds_of:W Fl:=(wSeq (wSet 2 (wBin opIx (wVar 1) (wC (.int 2))))
  (wSeq (wSet 3 (wLst (aVal (wFrz (cb 1 [2] (wSrc (av fs_all_cuts (aVal (wVar 0) aNil))) (aK 0) b6 b_bounds_of_2)) aNil)))
  (wSeq (wFor (wRevS (wLZip (aVal (wBin opIx (wVar 0) (wC (.int 1))) (aVal (wBin opIx (wVar 1) (wC (.int 1))) aNil)))) (dj [4,5]) b_bounds_of_1)
  (wRet (wMove 3)))))
theorem zip_units (R:Ring) (q:Rat):zipD (R.asks.map askD) (intL R.asks.length (wI R q))=(List.range R.asks.length).map fun i=>D.tup [askD (br R i),.int (wI R q i)]:=by
 unfold zipD intL
 refine List.ext_getElem (by simp) fun j h1 h2=>?_
 have hj:j < R.asks.length:=by simpa using h2
 simp [db hj]
theorem rev_at {n:Nat} {pre suf:List Nat} {a:Nat} (h:(List.range n).reverse=pre++a::suf):pre.length < n∧a=n - 1 - pre.length:=by
 have hl:pre.length < n:=by
  have:=congrArg List.length h
  simp at this
  omega
 refine ⟨hl,?_⟩
 have e:(List.range n).reverse[pre.length]?=some a:=by rw [h]; simp
 rw [List.getElem?_reverse (by simpa using hl),List.getElem?_range (by simp; omega)] at e
 simp at e
 omega
theorem sat_bounds_of:∀ ls post,ls.length=2→fs_bounds_of ls post→m_bounds_of (ls++List.replicate 4 .un) (aE ls post):=by
 rintro ls post - ⟨R,q,u,rfl,hR,h⟩
 have few:=hR.few
 have hi:=hR.hi
 have cl:=cuts_len hi
 unfold m_bounds_of
 walk_at "w"
 refine ⟨R,rfl,hR,fun c1=>?_⟩
 walk_at "w"
 refine ⟨Nat.le_trans cl (by decide),bm (enc:=cutP) (h:=fun c=>D.tup [cutP c,.int (bndZ R q R.asks.length c)]) _ _ _ (fun c hc Q hQ=>?_) fun l c2=>?_⟩
 ·
  have ic:=mem_cuts.mp hc
  have c1':c.1 < R.n:=by have:=ic.1; have:=ic.2; omega
  unfold b_bounds_of_2
  walk_at "w"
  refine ⟨_,intL_at c1',_,intL_at ic.2,?_⟩
  walk_at "w"
  have e:bndZ R q R.asks.length c=f0I R q c.1+f0I R q c.2:=by unfold bndZ; omega
  rw [e] at hQ
  exact ⟨by decide,hQ⟩
 rw [List.nil_append]
 walk_at "w"
 refine ⟨by decide,fun c3=>?_⟩
 rw [zip_units]
 refine ⟨by rw [List.length_map,List.length_range]; exact Nat.le_trans few (by decide),fun c4=>?_⟩
 rw [← List.map_reverse]
 refine forT_inv (enc:=fun i=>D.tup [askD (br R i),.int (wI R q i)]) (List.range R.asks.length).reverse (fun pre ρ=>∃ x4 x5,ρ=[.d (aR R),.d (.tup [.int u,.lst (intL R.asks.length (wI R q)),.lst (intL R.n (f0I R q))]),.d (.lst (intL R.n (f0I R q))),.own c3 ((List.range (pre.length+1)).map fun j=>rowD R q (R.asks.length - j)),x4,x5]) _ ⟨_,_,by rfl⟩ ?_ ?_
 ·
  rintro pre a suf ρ hsp ⟨x4,x5,rfl⟩ Q h1 h2 h3 h4
  obtain ⟨pl,ea⟩:=rev_at hsp
  have el:((List.range (pre.length+1)).map fun j=>rowD R q (R.asks.length - j)).length=pre.length+1:=by simp
  have at1:atI ((List.range (pre.length+1)).map fun j=>rowD R q (R.asks.length - j)) (-1)=some (rowD R q (R.asks.length - pre.length)):=by
   have ix:ixN (pre.length+1) (-1)=some pre.length:=by
    unfold ixN
    rw [if_neg (by decide),if_pos (by omega)]
    congr 1
    omega
   unfold atI
   rw [el,ix]
   show ((List.range (pre.length+1)).map fun j=>rowD R q (R.asks.length - j))[pre.length]?=_
   rw [List.getElem?_map,List.getElem?_range (by omega)]
   rfl
  have ek:R.asks.length - pre.length=a+1:=by omega
  rw [ek] at at1
  unfold b_bounds_of_1
  walk_at "w"
  refine ⟨_,at1,?_⟩
  rw [show rowD R q (a+1)=.lst ((cutsL R.n).map fun c=>D.tup [cutP c,.int (bndZ R q (a+1) c)]) from rfl]
  walk_at "w"
  refine ⟨Nat.le_trans cl (by decide),comp_map2 (e1:=cutP) (e2:=fun c=>.int (bndZ R q (a+1) c)) (h:=fun c=>D.tup [cutP c,.int (bndZ R q a c)]) _ _ _ _ (fun c hc Q hQ=>?_) fun l m c5=>?_⟩
  ·
   unfold b_bounds_of_0
   walk_at "w"
   refine ⟨c,(br R a).one,(br R a).other,rfl,?_⟩
   walk_at "w"
   have st:=bnd_step (R:=R) (q:=q) (k:=a) c
   unfold gA at st
   cases ap:apart c (br R a).one (br R a).other
   ·
    rw [ap] at st
    simp only [Bool.false_eq_true,if_false] at st ⊢
    rw [st]
    exact ⟨by decide,hQ⟩
   ·
    rw [ap] at st
    simp only [if_true] at st ⊢
    rw [st]
    exact ⟨by decide,hQ⟩
  rw [List.nil_append]
  walk_at "w"
  refine ⟨by rw [List.length_range]; exact Nat.lt_of_lt_of_le (show pre.length+1 < 99 by omega) (by decide),?_⟩
  have er:((List.range (pre.length+1)).map fun j=>rowD R q (R.asks.length - j))++[D.lst ((cutsL R.n).map fun c=>D.tup [cutP c,.int (bndZ R q a c)])]=(List.range ((pre++[a]).length+1)).map fun j=>rowD R q (R.asks.length - j):=by
   rw [List.length_append,List.length_singleton,List.range_succ (n:=pre.length+1),List.map_append]
   congr 1
   rw [List.map_singleton,show R.asks.length - (pre.length+1)=a by omega]
   rfl
  rw [er]
  exact h1 _ ⟨_,_,rfl⟩
 ·
  rintro ρ ⟨x4,x5,rfl⟩
  walk_at "w"
  rw [List.length_reverse,List.length_range]
  exact ⟨_,ag (ag az),h c3⟩
def dH:FS:=fun ls post=>∃ (R:Ring) (w:Wish),ls=[.d (aR R),.d (cf w)]∧R.Ok∧RB 1750 w.top∧R.asks.length≤7 ∧
 (∀ ws:List Bool,ws.length=R.asks.length→dW R w ws→post (.d (.tup [.str "ways",aQ ws])) ls)∧∀ T:Tr,T.Ok R w (List.replicate R.asks.length none)→T.size≤255→(∀ ws:List Bool,ws.length=R.asks.length→¬ dW R w ws)→post (.d (.tup [.str "none",trD T])) ls
def b_ways_for_0:W L:=(wC (.int 0))
def m_ways_for:W Fl:=(wSeq (wIf (aN (wBin opGt (aL bA (aVal (wBin opIx (wVar 0) (wC (.int 1))) aNil)) (wC (.int 7)))) wNever bt)
  (wSeq (wSet 2 (wFrz (av fs_weighed (aVal (wVar 0) (aVal (wBin opIx (wVar 1) (wC (.int 0))) aNil)))))
  (wRet (av fs_searched (aVal (wVar 0) (aVal (wVar 1) (aVal (wBin opIx (wVar 2) (wC (.int 1))) (aVal (wFrz (av fs_bounds_of (aVal (wVar 0) (aVal (wVar 2) aNil)))) (aVal (wFrz (wLst aNil)) (aVal (wFrz (cb 1 [] (wSrc (wBin opIx (wVar 0) (wC (.int 0)))) (aK 0) b6 b_ways_for_0)) aNil))))))))))
theorem ld_nil (R:Ring) (q:Rat):(R.rooms.map fun _=>D.int 0)=intL R.n (ldZ R q []):=by
 unfold intL
 refine List.ext_getElem (by simp [Ring.n]) fun j h1 h2=>?_
 simp [ldZ,sumN]
theorem comp_free {n:Nat} {ws:List Bool} (h:ws.length=n):Comp (prefO n []) ws:=by
 refine ⟨by rw [pref_len (Nat.zero_le _)]; exact h,fun i b e=>?_⟩
 rw [pref_at,dif_neg (by simp)] at e
 cases e
theorem sat_ways_for:∀ ls post,ls.length=2→dH ls post→m_ways_for (ls++List.replicate 1 .un) (aE ls post):=by
 rintro ls post - ⟨R,w,rfl,hR,hq,h7,hk,hT⟩
 have hi:=hR.hi
 unfold m_ways_for
 walk_at "w"
 rw [if_neg (by omega)]
 unfold cf
 walk_at "w"
 refine ⟨R,w.top,rfl,hR,hq,?_⟩
 walk_at "w"
 refine ⟨R,w.top,_,rfl,hR,fun c1=>?_⟩
 walk_at "w"
 refine ⟨by decide,fun c2=>⟨Nat.le_trans hi (by decide),?_⟩⟩
 refine bm (h:=fun _=>D.int 0) _ _ _ (fun a hm Q hQ=>?_) fun l' c3=>?_
 ·
  unfold b_ways_for_0
  walk_at "w"
  exact hQ
 rw [List.nil_append,ld_nil R w.top]
 have pw:2 ^ (R.asks.length - ([]:List Bool).length+1)≤2 ^ 8:=Nat.pow_le_pow_right (by decide) (by simp; omega)
 refine ⟨R,w,[],rfl,hR,Nat.zero_le _,by simp; omega,h7,fun ws hl k=>?_,fun T ht hz=>?_⟩
 ·
  exact ⟨_,ag (ag az),hk ws hl k⟩
 ·
  exact ⟨_,ag (ag az),hT T ht (Nat.le_of_succ_le_succ (Nat.le_trans hz pw)) fun ws hl=>tree_bars hR T _ ws (pref_len (Nat.zero_le _)) ht (comp_free hl)⟩
def bW:FS:=fun ls post=>∃ (R:Ring) (q:Rat),ls=[.d (aR R),.d (frD q)]∧R.Ok∧post (.d (cf (dX R q))) ls
def fh:W L:=(wC .non)
def dJ:W Fl:=(wRet (wTup (aVal (wVar 1) (aVal (wC (.bl true)) (aVal (wFrz (cb 1 [] (wSrc (wBin opIx (wVar 0) (wC (.int 1)))) (aK 0) b6 fh)) (aVal (wC (.int 0)) aNil))))))
theorem none_el (as:List Ask):(as.map fun _=>D.non)=(List.replicate as.length none).map optW:=by
 rw [List.map_replicate]
 exact List.map_const' ..
theorem sat_wish_for_less:∀ ls post,ls.length=2→bW ls post→dJ (ls++List.replicate 0 .un) (aE ls post):=by
 rintro ls post - ⟨R,q,rfl,hR,h⟩
 unfold dJ
 walk_at "w"
 refine ⟨Nat.le_trans hR.few (by decide),bm (enc:=askD) (h:=fun _=>D.non) R.asks _ _ (fun a ha Q hQ=>?_) fun l c=>?_⟩
 ·
  unfold fh
  walk_at "w"
  exact hQ
 rw [List.nil_append,none_el]
 walk_at "w"
 exact ⟨by decide,_,ag (ag az),h⟩
def fs_best_ways:FS:=fun ls post=>∃ (R:Ring),ls=[.d (aR R)]∧R.Ok∧S61 R∧R.asks.length≤7∧∀ (ws:List Bool) (T:Tr),BestW R ws→T.Ok R (dX R (topW R ws)) (List.replicate R.asks.length none)→T.size≤255→post (.d (.tup [frD (topW R ws),aQ ws,trD T])) ls
def b_best_ways_0:W Fl:=(wSeq (wSet 2 (wFrz (av fs_top_by (aVal (wVar 0) (aVal (wVar 1) aNil)))))
  (wSeq (wSet 3 (wFrz (av dH (aVal (wVar 0) (aVal (wFrz (av bW (aVal (wVar 0) (aVal (wVar 2) aNil)))) aNil)))))
  (wSeq (wIf (aN (wBin opEq (wBin opIx (wVar 3) (wC (.int 0))) (wC (.str "none")))) (wRet (wTup (aVal (wVar 2) (aVal (wVar 1) (aVal (wBin opIx (wVar 3) (wC (.int 1))) aNil))))) bt)
  (wSet 1 (wBin opIx (wVar 3) (wC (.int 1)))))))
def b_best_ways_1:W L:=(wC (.str "on"))
def m_best_ways:W Fl:=(wSeq (wSet 1 (cb 1 [] (wSrc (wBin opIx (wVar 0) (wC (.int 1)))) (aK 0) b6 b_best_ways_1))
  (wWhile (aN (wC (.bl true))) b_best_ways_0))
theorem on_all (as:List Ask):(as.map fun _=>D.str "on")=(List.replicate as.length true).map fun w=>D.str (wayS w):=by
 rw [List.map_replicate]
 exact List.map_const' ..
theorem sat_best_ways:∀ ls post,ls.length=1→fs_best_ways ls post→m_best_ways (ls++List.replicate 3 .un) (aE ls post):=by
 rintro ls post - ⟨R,rfl,hR,hT,h7,h⟩
 unfold m_best_ways
 walk_at "w"
 refine ⟨Nat.le_trans hR.few (by decide),bm (enc:=askD) (h:=fun _=>D.str "on") R.asks _ _ (fun a ha Q hQ=>?_) fun l c=>?_⟩
 ·
  unfold b_best_ways_1
  walk_at "w"
  exact hQ
 rw [List.nil_append,on_all]
 walk_at "w"
 refine ⟨fun n ρ=>∃ (ws:List Bool) (x1 x2 x3:L),ρ=[.d (aR R),x1,x2,x3]∧(x1=.d (aQ ws)∨∃ c,x1=.own c (ws.map fun w=>D.str (wayS w)))∧ws.length=R.asks.length∧n=lessN R ws,⟨_,List.replicate R.asks.length true,_,_,_,rfl,.inr ⟨_,rfl⟩,by simp,rfl⟩,?_⟩
 rintro n ρ ⟨ws,x1,x2,x3,rfl,hx,hw,rfl⟩
 walk_at "w"
 unfold b_best_ways_0
 have tb:=(topB_rb hR hT ws).mono (show 1301≤1750 by decide)
 have none:∀ T:Tr,T.Ok R (dX R (topW R ws)) (List.replicate R.asks.length none)→T.size≤255→(∀ vs:List Bool,vs.length=R.asks.length→¬ dW R (dX R (topW R ws)) vs)→post (.d (.tup [frD (topW R ws),aQ ws,trD T])) [.d (aR R)]:=fun T ht hz hn=>h ws T ⟨hw,fun vs hv=>by
  have h1:=hn vs hv
  have h2:¬ topW R vs < topW R ws:=fun z=>h1 (less_keeps hR rfl z (by rw [dX,turn_none]; exact Nat.le_refl 0))
  grind⟩ ht hz
 rcases hx with rfl | ⟨c2,rfl⟩
 all_goals
  walk_at "w"
  refine ⟨R,ws,rfl,hR,hT,hw,?_⟩
  walk_at "w"
  refine ⟨R,topW R ws,rfl,hR,?_⟩
  walk_at "w"
  refine ⟨R,dX R (topW R ws),rfl,hR,tb,h7,fun vs hv hk=>?_,fun T ht hz hn=>?_⟩
  ·
   have lt:topW R vs < topW R ws:=keeps_less hR rfl hk
   walk_at "w"
   refine ⟨sh_ways,sh_none,?_⟩
   rw [if_neg (by decide)]
   exact ⟨_,less_lt hv lt,vs,_,_,_,rfl,.inl rfl,hv,rfl⟩
  ·
   have e2:=none T ht hz hn
   walk_at "w"
   exact ⟨sh_none,sh_none,by decide,_,ag az,e2⟩
def fs_lets_best:FS:=fun ls post=>∃ (R:Ring) (ws:List Bool) (q:Rat) (T:Tr),ls=[.d (aR R),.d (.tup [frD q,aQ ws,trD T])]∧R.Ok∧S61 R∧RB 1750 q∧ws.length=R.asks.length∧T.Ok R (dX R q) (List.replicate R.asks.length none)∧T.size≤300∧post (.d (.bl (decide (topW R ws=q)))) ls
def m_lets_best:W Fl:=(wSeq (wIf (wOr (wNot (aN (wUn (opIsT "tuple") (wVar 1)))) (wOr (aN (wBin opNe (aL bA (aVal (wVar 1) aNil)) (wC (.int 3)))) (wNot (aN (av bQ (aVal (wVar 0) (aVal (wBin opIx (wVar 1) (wC (.int 1))) (aVal (wBin opIx (wVar 1) (wC (.int 0))) aNil)))))))) (wRet (wC (.bl false))) bt)
  (wRet (av fs_is_tree (aVal (wVar 0) (aVal (wFrz (av bW (aVal (wVar 0) (aVal (wBin opIx (wVar 1) (wC (.int 0))) aNil)))) (aVal (wBin opIx (wVar 1) (wC (.int 2))) aNil))))))
theorem sat_lets_best:∀ ls post,ls.length=2→fs_lets_best ls post→m_lets_best (ls++List.replicate 0 .un) (aE ls post):=by
 rintro ls post - ⟨R,ws,q,T,rfl,hR,hT,hq,hw,ht,hs,h⟩
 unfold m_lets_best
 walk_at "w"
 rw [if_neg (by simp)]
 refine ⟨R,ws,q,rfl,hR,hT,hw,?_⟩
 walk_at "w"
 by_cases e:topW R ws=q
 ·
  rw [decide_eq_true e] at h
  rw [if_neg (by simpa using e)]
  refine ⟨R,q,rfl,hR,?_⟩
  walk_at "w"
  refine ⟨R,dX R q,T,rfl,hR,hq,ht,hs,?_⟩
  exact ⟨_,ag (ag az),h⟩
 ·
  rw [decide_eq_false e] at h
  rw [if_pos e]
  exact ⟨_,ag (ag az),h⟩
def bo:FS:=fun ls post=>∃ (ns:List Int) (k:Int),ls=[.d (.lst (ns.map .int)),.d (.int k)]∧0≤k∧k≤100∧∀ a xs,StOk xs→post (.own a xs) ls
def m__law_begun:W Fl:=(wSeq (wSet 2 (wC (.int 0)))
  (wSeq (wIf (aN (wBin opLt (wVar 1) (aL bA (aVal (wVar 0) aNil)))) (wSet 2 (wBin opIx (wVar 0) (wVar 1))) bt)
  (wRet (wLst (aVal (wVar 2) (aVal (wBin eW (wBin bI (wBin bI (wBin eW (wVar 2) (wC (.int 2147483587))) (wBin aV (wBin aV (wC (.int 48271)) (wVar 1)) (wVar 1))) (wC (.int 13))) (wC (.int 2147483587))) (aVal (wBin opGe (wVar 2) (wBin opPow (wC (.int 10)) (wC (.int 18)))) aNil)))))))
theorem sat__law_begun:∀ ls post,ls.length=2→bo ls post→m__law_begun (ls++List.replicate 1 .un) (aE ls post):=by
 rintro ls post - ⟨ns,k,rfl,h0,h1,h⟩
 unfold m__law_begun
 have fin:∀ (c:Int) (ρ:Ev) (e:ρ=[.d (.lst (ns.map .int)),.d (.int k),.d (.int c)]),∀ a:Addr,aE [.d (.lst (ns.map .int)),.d (.int k)] post (.rt (.own a [.int c,.int ((c.fmod 2147483587+48271*k*k+13).fmod 2147483587),.bl (decide ((10:Int) ^ 18≤c))])) ρ:=fun c ρ e a=>by
  refine ⟨_,ag (ag az),h a _ ⟨_,_,_,rfl,?_,?_⟩⟩
  ·
   rw [Int.fmod_eq_emod_of_nonneg _ (by decide)]; exact Int.emod_nonneg _ (by decide)
  ·
   rw [Int.fmod_eq_emod_of_nonneg _ (by decide)]
   have:=Int.emod_lt_of_pos (c.fmod 2147483587+48271*k*k+13) (b:=2147483587) (by decide)
   omega
 have hb1:bM 48271:=a6 (by decide)
 have hb2:bM k:=a6 (Nat.lt_of_le_of_lt (show k.natAbs≤100 by omega) (by decide))
 have hb3:bM (48271*k):=a6 (Nat.lt_of_le_of_lt (show (48271*k).natAbs≤4827100 by omega) (by decide))
 walk_at "w"
 try rw [List.length_map]
 split
 ·
  rename_i hk
  have hk:k < (ns.length:Int):=by simpa using hk
  have hi:k.toNat < ns.length:=by omega
  refine ⟨.int ns[k.toNat],atI_of h0 (by rw [List.getElem?_map,List.getElem?_eq_getElem hi]; rfl),?_⟩
  exact ⟨by decide,hb1,hb2,hb3,hb2,by decide,by decide,by decide,by decide,by decide,fin _ _ rfl⟩
 ·
  exact ⟨by decide,hb1,hb2,hb3,hb2,by decide,by decide,by decide,by decide,by decide,fin _ _ rfl⟩
def ay:FS:=fun ls post=>∃ (a:Addr) (xs:List D) (m:Int),ls=[.own a xs,.d (.int m)]∧StOk xs∧0 < m∧m≤10 ^ 60∧∀ (r:Int) (ys:List D),StOk ys→0≤r→r < m→post (.d (.int r)) [.own a ys,.d (.int m)]
def fT:W Fl:=(wSeq (wSetV 0 (wC (.int 1)) (wBin eW (wBin bI (wBin aV (dU 0 (wIxV 0 (wC (.int 1))) (wBin opIx (wVar 0) (wC (.int 1)))) (wC (.int 39373))) (wC (.int 17))) (wC (.int 2147483647))))
  (wSet 3 (wFrz (wBin bI (wBin aV (wVar 3) (wC (.int 2147483629))) (wBin eW (wBin aV (dU 0 (wIxV 0 (wC (.int 1))) (wBin opIx (wVar 0) (wC (.int 1)))) (dU 0 (wIxV 0 (wC (.int 1))) (wBin opIx (wVar 0) (wC (.int 1))))) (wC (.int 2147483629)))))))
def m__law_take:W Fl:=(wSeq (wIf (aN (dU 0 (wIxV 0 (wC (.int 2))) (wBin opIx (wVar 0) (wC (.int 2))))) (wSeq (wSet 2 (wBin eW (dU 0 (wIxV 0 (wC (.int 0))) (wBin opIx (wVar 0) (wC (.int 0)))) (wVar 1)))
  (wSeq (wSetV 0 (wC (.int 0)) (wBin opDiv (dU 0 (wIxV 0 (wC (.int 0))) (wBin opIx (wVar 0) (wC (.int 0)))) (wVar 1)))
  (wSeq (wSetV 0 (wC (.int 2)) (wBin opGt (dU 0 (wIxV 0 (wC (.int 0))) (wBin opIx (wVar 0) (wC (.int 0)))) (wC (.int 0))))
  (wRet (wMove 2))))) bt)
  (wSeq (wSet 3 (wC (.int 0)))
  (wSeq (wFor (wRng1 (wBin bI (wC (.int 1)) (wBin aV (wC (.int 8)) (aL opInt (aVal (wBin opGt (wVar 1) (wBin opPow (wC (.int 10)) (wC (.int 6)))) aNil))))) (aK 4) fT)
  (wRet (wBin eW (wBin opDiv (wVar 3) (wC (.int 64))) (wVar 1))))))
theorem take_loop {a:Addr} {c:Int} {m x2:L} {post:Fl→Ev→Prop}:∀ (items:List D) (sd dr:Int) (j:Nat) (x4:L),j+items.length≤100→0≤sd→sd < 2147483647→0≤dr→dr < 2 ^ (40*j) →
  (∀ sd' dr' x',0≤sd'→sd' < 2147483647→0≤dr'→post .nx [.own a [.int c,.int sd',.bl false],m,x2,.d (.int dr'),x']) →
  dk (aK 4) fT items [.own a [.int c,.int sd,.bl false],m,x2,.d (.int dr),x4] post
 | [],sd,dr,j,x4,_,h0,h1,h2,h3,h=>h sd dr x4 h0 h1 h2
 | y::items,sd,dr,j,x4,hl,h0,h1,h2,h3,h=>by
  unfold dk fT
  walk_at "w"
  obtain ⟨r0,r1⟩:=fF (sd*39373+17) (m:=2147483647) (by decide)
  generalize (sd*39373+17).fmod 2147483647=s' at r0 r1 ⊢
  obtain ⟨q0,q1⟩:=fF (s'*s') (m:=2147483629) (by decide)
  generalize (s'*s').fmod 2147483629=t' at q0 q1 ⊢
  have hl':j+(items.length+1)≤100:=hl
  have b1:bM sd:=bits_le (n:=40) h0 (by omega) (by decide)
  have b2:bM s':=bits_le (n:=40) r0 (by omega) (by decide)
  have b3:bM dr:=bits_le (n:=40*j) h2 h3 (by omega)
  have b4:bM 39373:=a6 (by decide)
  have b5:bM 2147483629:=a6 (by decide)
  refine ⟨b1,b4,by decide,b3,b5,b2,b2,by decide,?_⟩
  refine take_loop items s' (dr*2147483629+t') (j+1) _ (by omega) r0 r1 (by omega) ?_ h
  have e:(2:Int) ^ (40*(j+1))=2 ^ (40*j)*1099511627776:=by
   rw [Nat.mul_succ,Int.pow_add]; rfl
  omega
theorem sat__law_take:∀ ls post,ls.length=2→ay ls post→m__law_take (ls++List.replicate 3 .un) (aE ls post):=by
 rintro ls post - ⟨a,xs,m,rfl,⟨c,sd,t,rfl,h0,h1⟩,hm,hM,h⟩
 unfold m__law_take
 have hm0:m≠0:=by omega
 have hmz:=small9000 (by omega) hM
 cases t with
 | true =>
  walk_at "w"
  obtain ⟨r0,r1⟩:=fF c hm
  exact ⟨hm0,hm0,hmz,_,dS List.mem_cons_self (ag az),h _ _ ⟨_,_,_,rfl,h0,h1⟩ r0 r1⟩
 | false =>
  walk_at "w"
  refine ⟨by decide,by decide,by decide,a6 (by decide),a6 (by split <;> decide),⟨by split <;> decide,by split <;> decide⟩,?_⟩
  refine take_loop (c:=c) _ sd 0 0 _ (by simp only [rngD,List.length_map,List.length_range]; split <;> decide) h0 h1 (by decide) (by decide) fun sd' dr' x' g0 g1 g2=>?_
  walk_at "w"
  obtain ⟨r0,r1⟩:=fF (dr'.fdiv 64) hm
  exact ⟨by decide,by decide,hm0,_,dS List.mem_cons_self (ag az),h _ _ ⟨_,_,_,rfl,g0,g1⟩ r0 r1⟩
def fs__law_names:FS:=fun ls post=>∃ (a:Addr) (xs:List D) (many:Nat),ls=[.own a xs,.d (.int many)]∧StOk xs∧many≤26 ∧
 ∀ (zs:List Str) (c:Addr) (ys:List D),StOk ys→zs.length=many→(∀ z∈zs,NmOk z)→zs.Nodup→post (.own c (zs.map .str)) [.own a ys,.d (.int many)]
def b__law_names_0:W L:=(wBin bI (wBin bI (wSl2 (wVar 1) none (some (wVar 2))) (wBin opIx (wVar 3) (wBin eW (wBin bI (wVar 4) (wVar 0)) (wC (.int 26))))) (wSl2 (wVar 1) (some (wBin bI (wVar 2) (wC (.int 1)))) none))
def c__law_names_3:W Fl:=(wRet (cb 1 [3,4,2,5] (wRng1 (wVar 1)) (aK 0) b6 b__law_names_0))
def c__law_names_2:W Fl:=(wSeq (wSet 5 (wFrz (a8 ay 0 0 (aVar 0 (aVal (wC (.int 26)) aNil)))))
  c__law_names_3)
def b__law_names_1:W L:=(wBin opIx (wVar 1) (a8 ay 0 2 (aVar 2 (aVal (wC (.int 26)) aNil))))
def c__law_names_1:W Fl:=(wSeq (wSet 4 (wFrz (a8 ay 0 0 (aVar 0 (aVal (wFrz (aL bA (aVal (wVar 3) aNil))) aNil)))))
  c__law_names_2)
def c__law_names_0:W Fl:=(wSeq (wSet 3 (wFrz (wJoin "" (cb 1 [2,0] (wRng1 (wBin bI (wC (.int 1)) (a8 ay 0 0 (aVar 0 (aVal (wC (.int 8)) aNil))))) (aK 0) b6 b__law_names_1))))
  c__law_names_1)
def m__law_names:W Fl:=(wSeq (wSet 2 (wC (.str "abcdefghijklmnopqrstuvwxyz")))
  c__law_names_0)
theorem sat__law_names:∀ ls post,ls.length=2→fs__law_names ls post→m__law_names (ls++List.replicate 4 .un) (aE ls post):=by
 rintro ls post - ⟨a,xs,many,rfl,hx,hm,h⟩
 unfold m__law_names
 walk_at "w"
 unfold c__law_names_0
 walk_at "w"
 refine ⟨a,xs,8,rfl,hx,by decide,by decide,fun r ys hy r0 r1=>⟨ys,rfl,?_⟩⟩
 walk_at "w"
 refine ⟨⟨by omega,by omega⟩,?_⟩
 rw [rngD_map]
 refine ⟨by rw [List.length_map,List.length_range]; exact Nat.le_trans (show (1+r).toNat≤8 by omega) (by decide),?_⟩
 refine comp_inv _ (fun j ρ acc=>∃ (l:L) (ys:List D) (cs:List Nat),ρ=[l,.d (.str lettersS),.own a ys]∧StOk ys∧acc=cs.map (fun c=>D.str ⟨#[c]⟩)∧cs.length=j∧∀ c∈cs,LetterC c) _ _ ⟨_,ys,[],rfl,hy,rfl,rfl,fun c hc=>by simp at hc⟩ ?_ ?_
 ·
  rintro j x ρ acc hx ⟨l,ys,cs,rfl,hy,rfl,hl,hc⟩ Q hQ
  unfold b6 b__law_names_1
  walk_at "w"
  refine ⟨a,ys,26,rfl,hy,by decide,by decide,fun q ws hw q0 q1=>⟨ws,rfl,by decide,_,letters_at q0 q1,?_⟩⟩
  refine hQ _ _ ⟨_,ws,cs++[q.toNat+97],rfl,hw,by simp,by simp [hl],fun c hm=>?_⟩
  rcases List.mem_append.mp hm with hm | hm
  ·
   exact hc c hm
  ·
   rw [List.mem_singleton.mp hm]
   unfold LetterC
   omega
 ·
  rintro ρ acc ⟨l,ys,cs,rfl,hy,rfl,hl,hc⟩
  rw [List.length_map,List.length_range] at hl
  walk_at "w"
  intro aa
  refine ⟨cs.map fun c=>⟨#[c]⟩,by simp,by rw [sum_ones,List.length_map]; show cs.length+cs.length*0≤_; omega,?_⟩
  have hb:NmOk (Txt.join "" (cs.map fun c=>(⟨#[c]⟩:Str))):=by
   refine ⟨?_,?_,?_⟩
   ·
    rw [join_ones_]; omega
   ·
    rw [join_ones_]; omega
   ·
    rw [join_ones_]; exact hc
  generalize Txt.join "" (cs.map fun c=>(⟨#[c]⟩:Str))=base at hb ⊢
  have hbl:=len_list base
  have hb1:=hb.lo
  have hb2:=hb.hi
  unfold c__law_names_1
  walk_at "w"
  refine ⟨Nat.le_trans (show base.length≤8 by omega) (by decide),a,ys,base.length,rfl,hy,by omega,by omega,fun p ws hw p0 p1=>⟨ws,rfl,?_⟩⟩
  unfold c__law_names_2
  walk_at "w"
  refine ⟨a,ws,26,rfl,hw,by decide,by decide,fun t vs hv t0 t1=>⟨vs,rfl,?_⟩⟩
  unfold c__law_names_3
  walk_at "w"
  refine ⟨⟨by omega,by omega⟩,?_⟩
  rw [rngD_map]
  refine ⟨by rw [List.length_map,List.length_range]; exact Nat.le_trans (show ((many:Int)).toNat≤26 by omega) (by decide),?_⟩
  refine bm (h:=fun k=>D.str (nameAt base p.toNat t.toNat k)) _ _ _ (fun k hk Q q=>?_) fun l'=>?_
  ·
   have hk:k < many:=by have:=List.mem_range.mp hk; omega
   unfold b__law_names_0
   walk_at "w"
   refine ⟨Nat.le_trans (show base.length≤8 by omega) (by decide),by decide,by decide,_,letters_at (i:=(t+(k:Int)).fmod 26) (fF _ (by decide)).1 (fF _ (by decide)).2,?_⟩
   have e1:=slice_to (x:=base) p0 (by omega)
   have e2:=slice_from (x:=base) (i:=p+1) (by omega) (by omega)
   have l1:(Txt.slice base none (some p)).length≤8:=by rw [len_list,e1,List.length_take]; omega
   have l2:(Txt.slice base (some (p+1)) none).length≤8:=by rw [len_list,e2,List.length_drop]; omega
   have e3:((t+(k:Int)).fmod 26).toNat=(t.toNat+k) % 26:=by
    rw [Int.fmod_eq_emod_of_nonneg _ (by decide)]
    omega
   have e4:Txt.slice base none (some p)++(⟨#[((t+(k:Int)).fmod 26).toNat+97]⟩:Str)++Txt.slice base (some (p+1)) none=nameAt base p.toNat t.toNat k:=by
    apply str_ext
    rw [cat_list,cat_list,e1,e2,e3]
    have:(p+1).toNat=p.toNat+1:=by omega
    simp [L2.nameAt,this]
   have one:∀ c:Nat,(⟨#[c]⟩:Str).length=1:=fun _=>rfl
   have lc:(Txt.slice base none (some p)++(⟨#[((t+(k:Int)).fmod 26).toNat+97]⟩:Str)).length≤9:=by
    rw [len_list,cat_list,List.length_append,← len_list,← len_list,one]; omega
   refine ⟨Nat.le_trans (show _≤9 by rw [one]; omega) (by decide),Nat.le_trans (show base.length≤8 by omega) (by decide),Nat.le_trans (Nat.add_le_add lc l2) (by decide),?_⟩
   rw [e4]
   exact q
  ·
   walk_at "w"
   intro c
   refine ⟨_,dS (ys:=vs) (by simp) (ag az),?_⟩
   have e:List.map (fun k=>D.str (nameAt base p.toNat t.toNat k)) (List.range ((many:Int)).toNat)=((List.range many).map fun k=>nameAt base p.toNat t.toNat k).map D.str:=by
    rw [List.map_map,Int.toNat_natCast]
    rfl
   rw [e]
   refine h _ c vs hv (by simp) (fun z hz=>?_) (nodup_map List.nodup_range fun x hx y hy=>?_)
   ·
    obtain ⟨k,_,rfl⟩:=List.mem_map.mp hz
    exact nameAt_ok hb (by omega)
   ·
    exact nameAt_inj (by omega) (by have:=List.mem_range.mp hx; omega) (by have:=List.mem_range.mp hy; omega)
def dL:FS:=fun ls post=>∃ t b:Int,ls=[.d (.int t),.d (.int b)]∧b≠0∧b.natAbs < 2 ^ 9000∧post (.d (frD (Rat.divInt t b))) ls
def b__law_low_0:W Fl:=(wPar 2 3 (wBin eW (wVar 3) (wVar 2)) (wVar 2))
def m__law_low:W Fl:=(wSeq (wSet 2 (wFrz (aL opAbs (aVal (wVar 0) aNil))))
  (wSeq (wSet 3 (wFrz (aL opAbs (aVal (wVar 1) aNil))))
  (wSeq (wWhile (aN (wBin opNe (wVar 2) (wC (.int 0)))) b__law_low_0)
  (wSeq (wIf (aN (wBin opLt (wVar 1) (wC (.int 0)))) (wSet 3 (wBin opSub (wC (.int 0)) (wVar 3))) bt)
  (wRet (wTup (aVal (wBin opDiv (wVar 0) (wVar 3)) (aVal (wBin opDiv (wVar 1) (wVar 3)) aNil))))))))
theorem sat__law_low:∀ ls post,ls.length=2→dL ls post→m__law_low (ls++List.replicate 2 .un) (aE ls post):=by
 rintro ls post - ⟨t,b,rfl,hb,hz,h⟩
 unfold m__law_low
 walk_at "w"
 have h1:=share_ne (t:=t) hb
 have h2:=Nat.lt_of_le_of_lt (share_le (t:=t) hb) hz
 have fin:∀ {g:Int} {ρ:Ev},g=bO t b→g≠0∧g.natAbs < 2 ^ 9000∧g≠0∧g.natAbs < 2 ^ 9000∧2≤sizeLine∧aE [.d (.int t),.d (.int b)] post (.rt (.d (.tup [.int (t.fdiv g),.int (b.fdiv g)]))) ρ:=fun {g ρ} e=>by
  have e1:g≠0:=by rw [e]; exact h1
  have e2:g.natAbs < 2 ^ 9000:=by rw [e]; exact h2
  refine ⟨e1,e2,e1,e2,by decide,_,ag (ag az),?_⟩
  rw [low_pair hb e]
  exact h
 refine ⟨fun n ρ=>∃ x y:Int,ρ=[.d (.int t),.d (.int b),.d (.int x),.d (.int y)]∧0≤x∧0≤y∧Int.gcd x y=Int.gcd t b∧n=x.natAbs,⟨_,_,_,rfl,by split <;> omega,by split <;> omega,?_,rfl⟩,?_⟩
 ·
  have e1:(if t < 0 then -t else t)=(t.natAbs:Int):=by split <;> omega
  have e2:(if b < 0 then -b else b)=(b.natAbs:Int):=by split <;> omega
  rw [e1,e2]
  simp [Int.gcd]
 ·
  rintro n ρ ⟨x,y,rfl,x0,y0,hg,rfl⟩
  unfold b__law_low_0
  walk_at "w"
  split
  ·
   rename_i hx
   have hx:x≠0:=by simpa using hx
   refine ⟨hx,_,natAbs_fmod_lt y hx,_,_,rfl,(fF y (by omega)).1,x0,?_,rfl⟩
   rw [Int.gcd_comm,gcd_fmod,Int.gcd_comm]
   exact hg
  ·
   rename_i hx
   have hx:x=0:=by simpa using hx
   subst hx
   have hy:y=(Int.gcd t b:Int):=by rw [← hg,Int.gcd_zero_left]; omega
   split
   ·
    rename_i hlt
    exact fin (by simp [bO,hlt,hy])
   ·
    rename_i hlt
    exact fin (by simp [bO,hlt,hy])
def bS:FS:=fun ls post=>∃ (a:Addr) (xs:List D) (least kind:Int),ls=[.own a xs,.d (.int least),.d (.int kind)]∧StOk xs∧0≤least∧least≤1∧0≤kind∧kind < 5 ∧
 ∀ (q:Rat) (ys:List D),StOk ys→0≤q→(least=1→0 < q)→RB 60 q→post (.d (frD q)) [.own a ys,.d (.int least),.d (.int kind)]
def m__law_amount:W Fl:=(wSeq (wSet 3 (wFrz (wBin bI (wC (.int 1)) (a8 ay 0 0 (aVar 0 (aVal (wBin opIx (wLst (aVal (wC (.int 1)) (aVal (wC (.int 1)) (aVal (wC (.int 4)) (aVal (wC (.int 12)) (aVal (wC (.int 12)) aNil)))))) (wVar 2)) aNil))))))
  (wSeq (wSet 4 (wFrz (wBin bI (wVar 1) (a8 ay 0 0 (aVar 0 (aVal (wBin opIx (wLst (aVal (wC (.int 3)) (aVal (wC (.int 10)) (aVal (wC (.int 10)) (aVal (wC (.int 40)) (aVal (wBin opPow (wC (.int 10)) (wC (.int 12))) aNil)))))) (wVar 2)) aNil))))))
  (wRet (av dL (aVal (wVar 4) (aVal (wVar 3) aNil))))))
theorem amount_ok {t b:Int} (h0:0≤t) (h1:t < 2 ^ 59) (h2:0 < b) (h3:b < 2 ^ 59):0≤Rat.divInt t b∧(0 < t→0 < Rat.divInt t b)∧RB 60 (Rat.divInt t b):=by
 have e:=Rat.divInt_nonneg (a:=t) (b:=b) h0 (by omega)
 refine ⟨e,fun ht=>?_,RB.of_divInt (by omega) ?_ ?_⟩
 ·
  refine Rat.lt_of_le_of_ne e fun z=>?_
  have:Rat.divInt 0 1=Rat.divInt t b:=by rw [← z]; rfl
  rw [Rat.divInt_eq_divInt_iff (by decide) (by omega)] at this
  omega
 ·
  have:(2:Int) ^ 59=((2 ^ 59:Nat):Int):=by decide
  have:(2:Nat) ^ 59 < 2 ^ 60:=by decide
  omega
 ·
  have:(2:Int) ^ 59=((2 ^ 59:Nat):Int):=by decide
  have:(2:Nat) ^ 59 < 2 ^ 60:=by decide
  omega
theorem sat__law_amount:∀ ls post,ls.length=3→bS ls post→m__law_amount (ls++List.replicate 2 .un) (aE ls post):=by
 rintro ls post - ⟨a,xs,least,kind,rfl,hx,l0,l1,k0,k1,h⟩
 have hk:kind=0∨kind=1∨kind=2∨kind=3∨kind=4:=by omega
 have fin:∀ (ys:List D) (r s:Int) (ρ:Ev),StOk ys→0≤r→r < 12→0≤s→s < 10 ^ 12→.own a ys∈ρ→dL [.d (.int (least+s)),.d (.int (1+r))] fun r' _=>aE [.own a xs,.d (.int least),.d (.int kind)] post (.rt r') ρ:=by
  intro ys r s ρ hy r0 r1 s0 s1 hm
  obtain ⟨a1,a2,a3⟩:=amount_ok (t:=least+s) (b:=1+r) (by omega) (by omega) (by omega) (by omega)
  exact ⟨_,_,rfl,by omega,small9000 (by omega) (by omega),_,dS hm (ag (ag az)),h _ ys hy a1 (fun e=>a2 (by omega)) a3⟩
 unfold m__law_amount
 rcases hk with rfl | rfl | rfl | rfl | rfl
 all_goals
  walk_at "w"
  refine ⟨by decide,fun _=>?_⟩
  refine ⟨a,xs,_,rfl,hx,by decide,by decide,fun r ys hy r0 r1=>⟨ys,rfl,?_⟩⟩
  walk_at "w"
  refine ⟨by decide,by decide,by decide,by decide,fun _=>?_⟩
  refine ⟨a,ys,_,rfl,hy,by decide,by decide,fun s zs hz s0 s1=>⟨zs,rfl,?_⟩⟩
  walk_at "w"
  exact fin zs r s _ hz r0 (by omega) s0 (Int.lt_of_lt_of_le s1 (by decide)) (by simp)
def fs__law_rooms:FS:=fun ls post=>∃ (a:Addr) (xs:List D) (n:Nat) (kind:Int),ls=[.own a xs,.d (.int n),.d (.int kind)]∧StOk xs∧1≤n∧n≤1000∧0≤kind∧kind < 5 ∧
 ∀ (qs:List Rat) (c:Addr) (ys:List D),StOk ys→qs.length=n→(∀ q∈qs,0 < q∧RB 60 q)→post (.own c (qs.map frD)) [.own a ys,.d (.int n),.d (.int kind)]
def b__law_rooms_0:W Fl:=(wSeq (wSet 6 (wFrz (a8 bS 0 0 (aVar 0 (aVal (wC (.int 1)) (aVal (wVar 2) aNil))))))
  (wDrop (wApp 5 (wBin opIx (wLst (aVal (wVar 4) (aVal (wVar 6) aNil))) (aL opInt (aVal (wBin opEq (wVar 3) (wC (.int 2))) aNil))))))
def c__law_rooms_4:W Fl:=(wRet (wMove 5))
def c__law_rooms_3:W Fl:=(wSeq (wWhile (aN (wBin opLt (dU 5 (wLenV 5) (aL bA (aVal (wVar 5) aNil))) (wVar 1))) b__law_rooms_0)
  c__law_rooms_4)
def eK:W Fl:=(wSeq (wSet 5 (wLst (aVal (wVar 4) aNil)))
  c__law_rooms_3)
def c__law_rooms_1:W Fl:=(wSeq (wIf (aN (wBin opEq (wVar 3) (wC (.int 0)))) (wSet 4 (wTup (aVal (wC (.int 1)) (aVal (wC (.int 1)) aNil)))) bt)
  eK)
def c__law_rooms_0:W Fl:=(wSeq (wSet 4 (wFrz (a8 bS 0 0 (aVar 0 (aVal (wC (.int 1)) (aVal (wVar 2) aNil))))))
  c__law_rooms_1)
def m__law_rooms:W Fl:=(wSeq (wSet 3 (wFrz (a8 ay 0 0 (aVar 0 (aVal (wC (.int 3)) aNil)))))
  c__law_rooms_0)
theorem sat__law_rooms:∀ ls post,ls.length=3→fs__law_rooms ls post→m__law_rooms (ls++List.replicate 4 .un) (aE ls post):=by
 rintro ls post - ⟨a,xs,n,kind,rfl,hx,n1,n2,k0,k1,h⟩
 have one:frD 1=.tup [.int 1,.int 1]:=rfl
 have rest:∀ (alike:Int) (p:Rat) (ys:List D),StOk ys→0 < p→RB 60 p →
   eK [.own a ys,.d (.int n),.d (.int kind),.d (.int alike),.d (frD p),.un,.un] (aE [.own a xs,.d (.int n),.d (.int kind)] post):=by
  intro alike p ys hy hp hb
  unfold eK
  walk_at "w"
  refine ⟨by decide,fun c=>?_⟩
  unfold c__law_rooms_3
  walk_at "w"
  refine ⟨fun m ρ=>∃ (qs:List Rat) (zs:List D) (l:L),ρ=[.own a zs,.d (.int n),.d (.int kind),.d (.int alike),.d (frD p),.own c (qs.map frD),l]∧StOk zs∧qs.length≤n∧m=n - qs.length∧∀ q∈qs,0 < q∧RB 60 q,⟨_,[p],ys,_,rfl,hy,n1,rfl,by intro q hq; rw [List.mem_singleton.mp hq]; exact ⟨hp,hb⟩⟩,?_⟩
  rintro m ρ ⟨qs,zs,l,rfl,hz,hl,rfl,hq⟩
  walk_at "w"
  try rw [List.length_map]
  split
  ·
   rename_i hlt
   unfold b__law_rooms_0
   walk_at "w"
   refine ⟨a,zs,1,kind,rfl,hz,by decide,by decide,k0,k1,fun q ws hw q0 q1 qb=>⟨ws,rfl,?_⟩⟩
   walk_at "w"
   have hs:qs.length < sizeLine:=by exact Nat.lt_of_le_of_lt (show qs.length≤1000 by omega) (by decide)
   have more:∀ q':Rat,0 < q'→RB 60 q'→∃ m,m < n - qs.length∧∃ (qs':List Rat) (zs:List D) (l:L),[L.own a ws,.d (.int n),.d (.int kind),.d (.int alike),.d (frD p),.own c (qs.map frD++[frD q']),.d (frD q)]=[.own a zs,.d (.int n),.d (.int kind),.d (.int alike),.d (frD p),.own c (qs'.map frD),l]∧StOk zs∧qs'.length≤n∧m=n - qs'.length∧∀ q∈qs',0 < q∧RB 60 q:=by
    intro q' p0 pb
    refine ⟨n - (qs++[q']).length,by rw [List.length_append]; simp only [List.length_singleton]; omega,qs++[q'],ws,.d (frD q),by rw [List.map_append]; rfl,hw,by rw [List.length_append]; simp only [List.length_singleton]; omega,rfl,fun z hz=>?_⟩
    rcases List.mem_append.mp hz with hz | hz
    ·
     exact hq z hz
    ·
     rw [List.mem_singleton.mp hz]; exact ⟨p0,pb⟩
   refine ⟨by decide,fun _=>?_⟩
   by_cases h2:alike=2
   ·
    refine ⟨frD q,?_,hs,more q (q1 rfl) qb⟩
    simp [h2,atI_1]
   ·
    refine ⟨frD p,?_,hs,more p hp hb⟩
    simp [h2,atI_0]
  ·
   have e:qs.length=n:=by omega
   unfold c__law_rooms_4
   walk_at "w"
   exact ⟨_,dS (by simp) (ag (ag az)),h qs c zs hz e hq⟩
 unfold m__law_rooms
 walk_at "w"
 refine ⟨a,xs,3,rfl,hx,by decide,by decide,fun r ys hy r0 r1=>⟨ys,rfl,?_⟩⟩
 unfold c__law_rooms_0
 walk_at "w"
 refine ⟨a,ys,1,kind,rfl,hy,by decide,by decide,k0,k1,fun q zs hz q0 q1 qb=>⟨zs,rfl,?_⟩⟩
 unfold c__law_rooms_1
 walk_at "w"
 split
 ·
  exact ⟨by decide,rest r 1 zs hz (by decide) ⟨by decide,by decide⟩⟩
 ·
  exact rest r q zs hz (q1 rfl) qb
def fs__law_ends:FS:=fun ls post=>∃ (a:Addr) (xs:List D) (shape k:Int) (n:Nat),ls=[.own a xs,.d (.int shape),.d (.int n),.d (.int k)]∧StOk xs∧2≤n∧n≤1000∧0≤k∧k≤1000 ∧
 ∀ (i j:Nat) (ys:List D),StOk ys→i < n→j < n→i≠j→post (.d (.tup [.int i,.int j])) [.own a ys,.d (.int shape),.d (.int n),.d (.int k)]
def m__law_ends:W Fl:=(wSeq (wSet 4 (wFrz (a8 ay 0 0 (aVar 0 (aVal (wVar 2) aNil)))))
  (wSeq (wSet 5 (wBin eW (wBin bI (wBin bI (wVar 4) (wC (.int 1))) (a8 ay 0 0 (aVar 0 (aVal (wBin opSub (wVar 2) (wC (.int 1))) aNil)))) (wVar 2)))
  (wSeq (wIf (aN (wBin opEq (wVar 1) (wC (.int 1)))) (wRet (wTup (aVal (wBin eW (wVar 3) (wVar 2)) (aVal (wBin eW (wBin bI (wVar 3) (wBin opDiv (wVar 2) (wC (.int 2)))) (wVar 2)) aNil)))) bt)
  (wSeq (wIf (aN (wBin opEq (wVar 1) (wC (.int 2)))) (wRet (wTup (aVal (wFrz (wBin aV (wBin eW (wVar 3) (wC (.int 2))) (wBin opSub (wVar 2) (wC (.int 1))))) (aVal (wFrz (wBin aV (wBin opSub (wC (.int 1)) (wBin eW (wVar 3) (wC (.int 2)))) (wBin opSub (wVar 2) (wC (.int 1))))) aNil)))) bt)
  (wSeq (wIf (aN (wBin opEq (wVar 1) (wC (.int 3)))) (wRet (wTup (aVal (wC (.int 0)) (aVal (wFrz (wBin bI (wC (.int 1)) (wBin eW (wVar 5) (wBin opSub (wVar 2) (wC (.int 1)))))) aNil)))) bt)
  (wRet (wTup (aVal (wVar 4) (aVal (wVar 5) aNil)))))))))
theorem sat__law_ends:∀ ls post,ls.length=4→fs__law_ends ls post→m__law_ends (ls++List.replicate 2 .un) (aE ls post):=by
 rintro ls post - ⟨a,xs,shape,k,n,rfl,hx,n2,n3,k0,k1,h⟩
 have fin:∀ (ys:List D) (i j:Int) (ρ:Ev),StOk ys→0≤i→i < n→0≤j→j < n→i≠j→.own a ys∈ρ→aE [.own a xs,.d (.int shape),.d (.int n),.d (.int k)] post (.rt (.d (.tup [.int i,.int j]))) ρ:=by
  intro ys i j ρ hy i0 i1 j0 j1 hij hm
  have:=h i.toNat j.toNat ys hy (by omega) (by omega) (by omega)
  rw [Int.toNat_of_nonneg i0,Int.toNat_of_nonneg j0] at this
  exact ⟨_,dS hm (ag (ag (ag az))),this⟩
 unfold m__law_ends
 walk_at "w"
 refine ⟨a,xs,n,rfl,hx,by omega,by omega,fun r ys hy r0 r1=>⟨ys,rfl,?_⟩⟩
 walk_at "w"
 refine ⟨a,ys,n - 1,rfl,hy,by omega,by omega,fun s zs hz s0 s1=>⟨zs,rfl,?_⟩⟩
 walk_at "w"
 refine ⟨by omega,?_⟩
 have e1:=Int.fmod_eq_emod_of_nonneg (r+1+s) (b:=n) (by omega)
 have e2:=Int.fmod_eq_emod_of_nonneg k (b:=n) (by omega)
 have e3:=Int.fdiv_eq_ediv_of_nonneg (n:Int) (b:=2) (by omega)
 have e4:=Int.fmod_eq_emod_of_nonneg (k+(n:Int) / 2) (b:=n) (by omega)
 have e5:=Int.fmod_eq_emod_of_nonneg k (b:=2) (by omega)
 have e6:=Int.fmod_eq_emod_of_nonneg ((r+1+s) % (n:Int)) (b:=(n:Int) - 1) (by omega)
 rw [e1]
 have o0:=Int.emod_nonneg (r+1+s) (b:=n) (by omega)
 have o1:=Int.emod_lt_of_pos (r+1+s) (b:=n) (by omega)
 have o2:(r+1+s) % (n:Int)≠r:=fun z=>by
  by_cases q:r+1+s < n
  ·
   rw [Int.emod_eq_of_lt (by omega) q] at z; omega
  ·
   have:(r+1+s) % (n:Int)=r+1+s - n:=by
    rw [← Int.sub_emod_right,Int.emod_eq_of_lt (by omega) (by omega)]
   omega
 split
 ·
  walk_at "w"
  rw [e2,e3,e4]
  refine ⟨by omega,by decide,by decide,by omega,by decide,fin zs _ _ _ hz (Int.emod_nonneg _ (by omega)) (Int.emod_lt_of_pos _ (by omega)) (Int.emod_nonneg _ (by omega)) (Int.emod_lt_of_pos _ (by omega)) (fun z=>?_) (by simp)⟩
  have h1:(k+(n:Int) / 2 - k) % n=0:=Int.emod_eq_emod_iff_emod_sub_eq_zero.mp z.symm
  have e9:k+(n:Int) / 2 - k=n / 2:=by omega
  rw [e9,Int.emod_eq_of_lt (by omega) (by omega)] at h1
  omega
 ·
  walk_at "w"
  split
  ·
   walk_at "w"
   rw [e5]
   have m0:=Int.emod_two_eq k
   refine ⟨by decide,a6 (by omega),a6 (by omega),by decide,a6 (by omega),a6 (by omega),by decide,?_⟩
   rcases m0 with m0 | m0
   ·
    rw [m0]
    exact fin zs _ _ _ hz (by omega) (by omega) (by omega) (by omega) (by omega) (by simp)
   ·
    rw [m0]
    exact fin zs _ _ _ hz (by omega) (by omega) (by omega) (by omega) (by omega) (by simp)
  ·
   walk_at "w"
   split
   ·
    walk_at "w"
    rw [e6]
    have p0:=Int.emod_nonneg ((r+1+s) % (n:Int)) (b:=(n:Int) - 1) (by omega)
    have p1:=Int.emod_lt_of_pos ((r+1+s) % (n:Int)) (b:=(n:Int) - 1) (by omega)
    exact ⟨by omega,by decide,fin zs _ _ _ hz (by omega) (by omega) (by omega) (by omega) (by omega) (by simp)⟩
   ·
    walk_at "w"
    exact ⟨by decide,fin zs _ _ _ hz (by omega) (by omega) (by omega) (by omega) (Ne.symm o2) (by simp)⟩
/-- a ring that is drawn: of at most so many places and asks -/
structure Drawn (most count:Nat) (R:Ring):Prop where
 ok:R.Ok
 hi:R.n≤most
 few:R.asks.length≤count
 nms:(∀ a∈R.asks,NmOk a.nm)∧(R.asks.map (·.nm)).Nodup
 tt:∀ a∈R.asks,RB 60 a.size
theorem Drawn.nt {m c:Nat} {R:Ring} (h:Drawn m c R):∀ a∈R.asks,NmOk a.nm∧RB 60 a.size:=fun a ha=>⟨h.nms.1 a ha,h.tt a ha⟩
def fs__law_ring:FS:=fun ls post=>∃ (ns:List Int) (at_ most count:Nat),ls=[.d (.lst (ns.map .int)),.d (.int at_),.d (.int most),.d (.int count)]∧at_≤90∧2≤most∧most≤12∧count≤20 ∧
 ∀ R:Ring,Drawn most count R→post (.d (aR R)) ls
def b__law_ring_0:W Fl:=(wSeq (wAsgT [13,14] (a8 fs__law_ends 0 4 (aVar 4 (aVal (wVar 8) (aVal (wVar 5) (aVal (wVar 12) aNil))))))
  (wDrop (wApp 11 (wTup (aVal (wBin opIx (wVar 9) (wVar 12)) (aVal (wVar 13) (aVal (wVar 14) (aVal (wFrz (a8 bS 0 4 (aVar 4 (aVal (wC (.int 0)) (aVal (wBin opIx (wVar 7) (wC (.int 1))) aNil))))) aNil))))))))
def c__law_ring_9:W Fl:=(wRet (wTup (aVal (wVar 10) (aVal (wVar 11) aNil))))
def c__law_ring_8:W Fl:=(wSeq (wFor (wRng1 (wVar 6)) (aK 12) b__law_ring_0)
  c__law_ring_9)
def c__law_ring_7:W Fl:=(wSeq (wSet 11 (wLst aNil))
  c__law_ring_8)
def c__law_ring_6:W Fl:=(wSeq (wSet 4 (av bo (aVal (wVar 0) (aVal (wFrz (wBin bI (wVar 1) (wC (.int 2)))) aNil))))
  c__law_ring_7)
def c__law_ring_5:W Fl:=(wSeq (wSet 10 (wFrz (av fs__law_rooms (aVal (av bo (aVal (wVar 0) (aVal (wFrz (wBin bI (wVar 1) (wC (.int 1)))) aNil))) (aVal (wVar 5) (aVal (wBin opIx (wVar 7) (wC (.int 0))) aNil))))))
  c__law_ring_6)
def c__law_ring_4:W Fl:=(wSeq (wSet 9 (wFrz (a8 fs__law_names 0 4 (aVar 4 (aVal (wVar 6) aNil)))))
  c__law_ring_5)
def c__law_ring_3:W Fl:=(wSeq (wSet 8 (wFrz (a8 ay 0 4 (aVar 4 (aVal (wC (.int 6)) aNil)))))
  c__law_ring_4)
def c__law_ring_2:W Fl:=(wSeq (wSet 7 (wFrz (wLst (aVal (wFrz (a8 ay 0 4 (aVar 4 (aVal (wC (.int 5)) aNil)))) (aVal (wFrz (a8 ay 0 4 (aVar 4 (aVal (wC (.int 5)) aNil)))) aNil)))))
  c__law_ring_3)
def c__law_ring_1:W Fl:=(wSeq (wSet 6 (wFrz (a8 ay 0 4 (aVar 4 (aVal (wFrz (wBin bI (wVar 3) (wC (.int 1)))) aNil)))))
  c__law_ring_2)
def c__law_ring_0:W Fl:=(wSeq (wSet 5 (wFrz (wBin bI (wC (.int 2)) (a8 ay 0 4 (aVar 4 (aVal (wBin opSub (wVar 2) (wC (.int 1))) aNil))))))
  c__law_ring_1)
def m__law_ring:W Fl:=(wSeq (wSet 4 (av bo (aVal (wVar 0) (aVal (wVar 1) aNil))))
  c__law_ring_0)
theorem ring_loop {S a1 m3 c3 rms:D} {b c:Addr} {n shape kind:Nat} {zs:List Str} {post:Fl→Ev→Prop} (hn:2≤n) (hn2:n≤12) (hk:kind < 5) (k0:Nat) (hzl:zs.length≤20) (hz:∀ z∈zs,NmOk z) (xs:List D) (hx:StOk xs) (x13 x14:L)
  (fin:∀ (as:List Ask) (ys:List D) (x12 x13 x14:L),(∀ a∈as,AskOk n a∧RB 60 a.size)→as.map (·.nm)=zs→post .nx [.d S,.d a1,.d m3,.d c3,.own b ys,.d (.int n),.d (.int (zs.length:Int)),.d (.lst [.int k0,.int kind]),.d (.int shape),.d (.lst (zs.map .str)),.d rms,.own c (as.map askD),x12,x13,x14]) :
  dk (aK 12) b__law_ring_0 ((List.range zs.length).map fun (i:Nat)=>D.int (i:Int)) [.d S,.d a1,.d m3,.d c3,.own b xs,.d (.int n),.d (.int (zs.length:Int)),.d (.lst [.int k0,.int kind]),.d (.int shape),.d (.lst (zs.map .str)),.d rms,.own c [],.un,x13,x14] post:=by
 refine forL_inv _ (fun j ρ=>∃ (as:List Ask) (ys:List D) (x12 x13 x14:L),ρ=[.d S,.d a1,.d m3,.d c3,.own b ys,.d (.int n),.d (.int (zs.length:Int)),.d (.lst [.int k0,.int kind]),.d (.int shape),.d (.lst (zs.map .str)),.d rms,.own c (as.map askD),x12,x13,x14]∧StOk ys∧(∀ a∈as,AskOk n a∧RB 60 a.size)∧as.map (·.nm)=zs.take j) _ ⟨[],xs,_,_,_,rfl,hx,fun a ha=>by simp at ha,rfl⟩ ?_ ?_
 ·
  rintro j x ρ hj ⟨as,ys,x12,x13,x14,rfl,hy,ha,hn'⟩ Q h1 h2 h3 h4
  have hj':j < zs.length:=by
   have:=(List.getElem?_eq_some_iff.mp hj).1
   simpa using this
  have ex:x=.int (j:Int):=by
   rw [List.getElem?_map,List.getElem?_range hj'] at hj
   exact (Option.some.inj hj).symm
  subst ex
  unfold b__law_ring_0
  walk_at "w"
  refine ⟨b,ys,shape,j,n,rfl,hy,hn,by omega,by omega,by omega,fun i k ws hw i1 k1 hik=>⟨ws,rfl,?_⟩⟩
  walk_at "w"
  refine ⟨.str zs[j],et hj',?_⟩
  refine ⟨b,ws,0,kind,rfl,hw,by decide,by decide,by omega,by omega,fun q vs hv q0 _ qb=>⟨vs,rfl,?_⟩⟩
  walk_at "w"
  have hlen:as.length=j:=by
   have:=congrArg List.length hn'
   rw [List.length_map,List.length_take] at this
   omega
  refine ⟨by decide,by rw [hlen]; exact Nat.lt_of_lt_of_le hj' (Nat.le_trans hzl (by decide)),h1 _ ⟨as++[⟨zs[j],i,k,q⟩],vs,_,_,_,by rw [List.map_append]; rfl,hv,fun a hm=>?_,?_⟩⟩
  ·
   rcases List.mem_append.mp hm with hm | hm
   ·
    exact ha a hm
   ·
    rw [List.mem_singleton.mp hm]
    exact ⟨⟨i1,k1,hik,q0,lt_of_RB qb,(hz _ (List.getElem_mem hj')).ok⟩,qb⟩
  ·
   rw [List.map_append,hn',List.take_succ,List.getElem?_eq_getElem hj']
   rfl
 ·
  rintro ρ ⟨as,ys,x12,x13,x14,rfl,hy,ha,hn'⟩
  rw [List.length_map,List.length_range,List.take_of_length_le (Nat.le_refl _)] at hn'
  exact fin as ys x12 x13 x14 ha hn'
theorem sat__law_ring:∀ ls post,ls.length=4→fs__law_ring ls post→m__law_ring (ls++List.replicate 11 .un) (aE ls post):=by
 rintro ls post - ⟨ns,at_,most,count,rfl,ha,m2,m12,c20,h⟩
 unfold m__law_ring
 walk_at "w"
 refine ⟨ns,at_,rfl,by omega,by omega,fun b xs hx=>?_⟩
 unfold c__law_ring_0
 walk_at "w"
 refine ⟨b,xs,(most:Int) - 1,rfl,hx,by omega,by omega,fun r ys hy r0 r1=>⟨ys,rfl,?_⟩⟩
 unfold c__law_ring_1
 walk_at "w"
 refine ⟨b,ys,(count:Int)+1,rfl,hy,by omega,by omega,fun s zs hz s0 s1=>⟨zs,rfl,?_⟩⟩
 unfold c__law_ring_2
 walk_at "w"
 refine ⟨b,zs,5,rfl,hz,by decide,by decide,fun k1 ws hw k10 k11=>⟨ws,rfl,?_⟩⟩
 walk_at "w"
 refine ⟨b,ws,5,rfl,hw,by decide,by decide,fun k2 vs hv k20 k21=>⟨vs,rfl,?_⟩⟩
 walk_at "w"
 refine ⟨by decide,fun kk=>?_⟩
 unfold c__law_ring_3
 walk_at "w"
 refine ⟨b,vs,6,rfl,hv,by decide,by decide,fun sh us hu sh0 sh1=>⟨us,rfl,?_⟩⟩
 unfold c__law_ring_4
 walk_at "w"
 obtain ⟨many,rfl⟩:=Int.eq_ofNat_of_zero_le s0
 obtain ⟨pl,epl⟩:∃ pl:Nat,2+r=(pl:Int):=Int.eq_ofNat_of_zero_le (by omega)
 obtain ⟨sh',rfl⟩:=Int.eq_ofNat_of_zero_le sh0
 obtain ⟨k1',rfl⟩:=Int.eq_ofNat_of_zero_le k10
 obtain ⟨k2',rfl⟩:=Int.eq_ofNat_of_zero_le k20
 rw [epl]
 refine ⟨b,us,many,rfl,hu,by omega,fun nms c ts ht hnl hnm hnd=>⟨ts,rfl,?_⟩⟩
 unfold c__law_ring_5
 walk_at "w"
 refine ⟨ns,at_+1,rfl,by omega,by omega,fun b2 xs2 hx2=>?_⟩
 refine ⟨b2,xs2,pl,k1',rfl,hx2,by omega,by omega,by omega,by omega,fun qs c2 ys2 hy2 hql hq=>?_⟩
 unfold c__law_ring_6
 walk_at "w"
 refine ⟨ns,at_+2,rfl,by omega,by omega,fun b3 xs3 hx3=>?_⟩
 unfold c__law_ring_7
 walk_at "w"
 refine ⟨by decide,fun c3=>?_⟩
 unfold c__law_ring_8
 walk_at "w"
 refine ⟨⟨by omega,by omega⟩,?_⟩
 rw [rngD_map,Int.toNat_natCast,← hnl]
 refine ring_loop (n:=pl) (by omega) (by omega) (by omega) k1' (by omega) hnm xs3 hx3 _ _ fun as ys' x12 x13 x14 hao han=>?_
 walk_at "w"
 unfold c__law_ring_9
 walk_at "w"
 refine ⟨by decide,_,ag (ag (ag (ag az))),h ⟨qs,as⟩ ?_⟩
 have hal:as.length=nms.length:=by rw [← han,List.length_map]
 refine ⟨⟨?_,?_,?_,hq,?_,cd_of (fun a ha=>(hao a ha).2) (by show as.length≤20; omega)⟩,?_,?_,⟨?_,?_⟩,fun a ha=>(hao a ha).2⟩
 ·
  show 2≤qs.length; omega
 ·
  show qs.length≤12; omega
 ·
  show as.length≤20; omega
 ·
  show ∀ a∈as,AskOk qs.length a; rw [hql]; exact fun a ha=>(hao a ha).1
 ·
  show qs.length≤most; omega
 ·
  show as.length≤count; omega
 ·
  intro a ha
  exact hnm _ (by rw [← han]; exact List.mem_map_of_mem ha)
 ·
  show (as.map (·.nm)).Nodup
  rw [han]
  exact hnd
def c7:FS:=fun ls post=>∃ n:Nat,ls=[.d (.int (n:Int))]∧n≤6∧∀ c,post (.own c ((allW n).map aQ)) ls
def fj:W L:=(wBin bI (wVar 0) (wLst (aVal (wC (.str "on")) aNil)))
def fk:W L:=(wBin bI (wVar 0) (wLst (aVal (wC (.str "back")) aNil)))
def fm:W Fl:=(wSet 1 (wBin bI (cb 1 [] (wSrc (wVar 1)) (aK 0) b6 fj) (cb 1 [] (wSrc (wVar 1)) (aK 0) b6 fk)))
def dM:W Fl:=(wSeq (wSet 1 (wLst (aVal (wFrz (wLst aNil)) aNil)))
  (wSeq (wFor (wRng1 (wVar 0)) (aK 2) fm)
  (wRet (wMove 1))))
theorem sat__law_all_ways:∀ ls post,ls.length=1→c7 ls post→dM (ls++List.replicate 2 .un) (aE ls post):=by
 rintro ls post - ⟨n,rfl,hn,h⟩
 unfold dM
 walk_at "w"
 refine ⟨by decide,fun c1=>⟨by decide,fun c2=>⟨⟨by omega,by omega⟩,?_⟩⟩⟩
 rw [Int.toNat_natCast]
 refine forR0_inv _ (fun j ρ=>∃ c x2,ρ=[.d (.int (n:Int)),.own c ((allW j).map aQ),x2]) _ ⟨_,_,rfl⟩ ?_ ?_
 ·
  rintro j ρ hj ⟨c,x2,rfl⟩ Q h1 h2 h3 h4
  have hp:2 ^ j≤2 ^ 6:=Nat.pow_le_pow_right (by decide) (by omega)
  unfold fm
  walk_at "w"
  have sl:(128:Nat)≤sizeLine:=by decide
  rw [allW_len]
  have one:∀ v,v∈allW j→v.length+1≤sizeLine:=fun v hv=>by rw [mem_allW.mp hv]; omega
  refine ⟨by omega,bm (h:=fun v=>aQ (v++[true])) _ _ _ (fun v hv Q hQ=>?_) fun l c3=>⟨by omega,bm (h:=fun v=>aQ (v++[false])) _ _ _ (fun v hv Q hQ=>?_) fun l c4=>?_⟩⟩
  ·
   unfold fj
   have e:aQ (v++[true])=.lst ((v.map fun w=>D.str (wayS w))++[.str "on"]):=by rw [aQ,List.map_append]; rfl
   rw [e] at hQ
   unfold aQ
   walk_at "w"
   exact ⟨by decide,fun _=>⟨one v hv,fun _=>hQ⟩⟩
  ·
   unfold fk
   have e:aQ (v++[false])=.lst ((v.map fun w=>D.str (wayS w))++[.str "back"]):=by rw [aQ,List.map_append]; rfl
   rw [e] at hQ
   unfold aQ
   walk_at "w"
   exact ⟨by decide,fun _=>⟨one v hv,fun _=>hQ⟩⟩
  rw [List.nil_append,List.nil_append,List.length_map,List.length_map,allW_len]
  refine ⟨by omega,fun c5=>h1 _ ⟨c5,.d (.int (j:Int)),?_⟩⟩
  rw [allW,List.map_append,List.map_map,List.map_map]
  rfl
 ·
  rintro ρ ⟨c,x2,rfl⟩
  walk_at "w"
  exact ⟨_,ag az,h _⟩
def fs__law_under:FS:=fun ls post=>∃ p q:Rat,ls=[.d (frD p),.d (frD q)]∧RB 400000 p∧RB 400000 q∧post (.d (.bl (decide (p < q)))) ls
def m__law_under:W Fl:=(wRet (wBin opLt (wBin aV (wBin opIx (wVar 0) (wC (.int 0))) (wBin opIx (wVar 1) (wC (.int 1)))) (wBin aV (wBin opIx (wVar 1) (wC (.int 0))) (wBin opIx (wVar 0) (wC (.int 1))))))
theorem sat__law_under:∀ ls post,ls.length=2→fs__law_under ls post→m__law_under (ls++List.replicate 0 .un) (aE ls post):=by
 rintro ls post - ⟨p,q,rfl,hp,hq,h⟩
 unfold m__law_under
 walk_at "w"
 refine ⟨hp.bn (by decide),hq.bd (by decide),hq.bn (by decide),hp.bd (by decide),_,ag (ag az),?_⟩
 rw [lt_eq]
 exact h
def cn:FS:=fun ls post=>∃ (R:Ring),ls=[.d (aR R),.d (.lst ((allW R.asks.length).map aQ))]∧R.Ok∧(∀ a∈R.asks,RB 60 a.size)∧R.asks.length≤6∧post (.d (.bl true)) ls
def dN:W Fl:=(wSeq (wSet 6 (wBin opIx (av fs_top_of (aVal (wVar 0) (aVal (wFrz (av dg (aVal (wVar 0) (aVal (wVar 5) aNil)))) aNil))) (wC (.int 0))))
  (wIf (wOr (aN (av fs__law_under (aVal (wVar 6) (aVal (wVar 2) aNil)))) (aN (wBin opNe (av fs_lets_best (aVal (wVar 0) (aVal (wTup (aVal (wVar 2) (aVal (wFrz (aL opList (aVal (wVar 5) aNil))) (aVal (wVar 4) aNil)))) aNil))) (wBin opEq (wVar 6) (wVar 2))))) (wRet (wC (.bl false))) bt))
def cG:W Fl:=(wSeq (wAsgT [2,3,4] (av fs_best_ways (aVal (wVar 0) aNil)))
  (wSeq (wIf (aN (wBin (opInS true) (wVar 3) (wVar 1))) (wRet (wC (.bl false))) bt)
  (wSeq (wFor (wSrc (wVar 1)) (aK 5) dN)
  (wRet (wC (.bl true))))))
theorem sat__law_best_right:∀ ls post,ls.length=2→cn ls post→cG (ls++List.replicate 5 .un) (aE ls post):=by
 rintro ls post - ⟨R,rfl,hR,hT,h6,h⟩
 have hT1:S61 R:=fun a ha=>(hT a ha).mono (by decide)
 unfold cG
 walk_at "w"
 refine ⟨R,rfl,hR,hT1,by omega,fun ws T hb ho hz=>?_⟩
 walk_at "w"
 refine ⟨shape_ways ws,depth_ways ws,all_shape _,?_⟩
 rw [any_ways,decide_eq_true (mem_allW.mpr hb.1)]
 walk_at "w"
 have tb:=topB_rb hR hT1 ws
 refine forT_inv (enc:=aQ) (allW R.asks.length) (fun pre ρ=>∃ (x5 x6:L),ρ=[.d (aR R),.d (.lst ((allW R.asks.length).map aQ)),.d (frD (topW R ws)),.d (aQ ws),.d (trD T),x5,x6]) _ ⟨_,_,rfl⟩ ?_ ?_
 ·
  rintro pre vs suf ρ hsp ⟨x5,x6,rfl⟩ Q h1 h2 h3 h4
  have hv:vs.length=R.asks.length:=mem_allW.mp (by rw [hsp]; simp)
  have tv:=topB_rb hR hT1 vs
  have e4:¬ topW R vs < topW R ws:=by
   have:=hb.2 vs hv
   grind
  unfold dN
  walk_at "w"
  refine ⟨R,vs,rfl,hR.few,hv,fun c1=>?_⟩
  walk_at "w"
  refine ⟨R,wprt R.asks vs,rfl,hR,wprt_len hv,LB.ways hR hT1 vs,?_⟩
  have e2:aF R (wprt R.asks vs) (topI R.n (aF R (wprt R.asks vs)))=topW R vs:=rfl
  unfold topP
  rw [e2]
  walk_at "w"
  refine ⟨_,_,rfl,tv.mono (by decide),tb.mono (by decide),?_⟩
  rw [decide_eq_false e4]
  rw [show aQ vs=.lst (vs.map fun b=>D.str (wayS b)) from rfl]
  walk_at "w"
  refine fun a1=>⟨by decide,R,vs,topW R ws,T,rfl,hR,hT1,tb.mono (by decide),hv,ho,by omega,?_⟩
  walk_at "w"
  rw [if_neg (by simp)]
  exact h1 _ ⟨_,_,rfl⟩
 ·
  rintro ρ ⟨x5,x6,rfl⟩
  exact ⟨_,ag (ag az),h⟩
def fs__law_lets:FS:=fun ls post=>∃ (R:Ring) (w:Wish) (T:Tr),ls=[.d (aR R),.d (cf w),.d (trD T)]∧R.Ok∧RB 1750 w.top∧T.Ok R w (List.replicate R.asks.length none)∧T.size≤300∧post (.d (.bl true)) ls
def m__law_lets:W Fl:=(wSeq (wDrop (av cm (aVal (wVar 0) (aVal (wVar 1) (aVal (wVar 2) aNil)))))
  (wRet (wC (.bl true))))
theorem sat__law_lets:∀ ls post,ls.length=3→fs__law_lets ls post→m__law_lets (ls++List.replicate 0 .un) (aE ls post):=by
 rintro ls post - ⟨R,w,T,rfl,hR,hq,ht,hs,h⟩
 unfold m__law_lets
 walk_at "w"
 refine ⟨R,w,T,rfl,hR,hq,ht,hs,?_⟩
 exact ⟨_,ag (ag (ag az)),h⟩
def fs__law_right:FS:=fun ls post=>∃ (R:Ring) (w:Wish),ls=[.d (aR R),.d (cf w),.d (.lst ((allW R.asks.length).map aQ))]∧R.Ok∧(∀ a∈R.asks,RB 60 a.size)∧R.asks.length≤6∧RB 1750 w.top∧w.elder.length=R.asks.length∧post (.d (.bl true)) ls
def c__law_right_5:W Fl:=(wRet (wBin opEq (wVar 6) (wTup (aVal (wC (.str "ways")) (aVal (wVar 4) aNil)))))
def c__law_right_4:W Fl:=(wSeq (wSet 6 (wFrz (av dH (aVal (wVar 0) (aVal (wTup (aVal (wBin opIx (wVar 1) (wC (.int 0))) (aVal (wBin opIx (wVar 1) (wC (.int 1))) (aVal (wVar 4) (aVal (wC (.int 0)) aNil))))) aNil)))))
  c__law_right_5)
def c__law_right_3:W Fl:=(wSeq (wIf (aN (wBin (opInS true) (wVar 4) (wVar 5))) (wRet (wC (.bl false))) bt)
  c__law_right_4)
def eL:W Fl:=(wSeq (wIf (aN (wBin opEq (wVar 5) (wLst aNil))) (wRet (av fs__law_lets (aVal (wVar 0) (aVal (wVar 1) (aVal (wVar 4) aNil))))) bt)
  c__law_right_3)
def eM:W L:=(wVar 0)
def eN:W Fl:=(wSeq (wIf (aN (wBin opNe (wVar 3) (wBin opIx (wLst (aVal (wC (.str "ways")) (aVal (wC (.str "none")) aNil))) (aL opInt (aVal (wBin opEq (wVar 5) (wLst aNil)) aNil))))) (wRet (wC (.bl false))) bt)
  eL)
def eO:W Fl:=(wSeq (wSet 5 (cb 1 [0,1] (wSrc (wVar 2)) (aK 0) (aN (wBin opIsN (av cL (aVal (wVar 1) (aVal (wVar 2) (aVal (wVar 0) aNil)))) (wC .non))) eM))
  eN)
def m__law_right:W Fl:=(wSeq (wAsgT [3,4] (av dH (aVal (wVar 0) (aVal (wVar 1) aNil))))
  eO)
theorem broken_keeps {R:Ring} {w:Wish} {ws:List Bool}:ez R w ws (aF R (wprt R.asks ws))=.non↔dW R w ws:=by
 unfold ez dW
 constructor
 ·
  intro h
  split at h
  ·
   cases h
  ·
   rename_i e
   split at h
   ·
    cases h
   ·
    rename_i g
    exact ⟨first_none.mp e,by omega⟩
 ·
  rintro ⟨h1,h2⟩
  rw [first_none.mpr h1]
  exact if_neg (by omega)
theorem turn_self (l:List (Option Bool)):(cx l l).length=0:=by
 unfold cx
 rw [List.length_map,List.length_eq_zero_iff]
 refine List.filter_eq_nil_iff.mpr fun x hx=>?_
 have h1:=(List.mem_zipIdx hx).2.2
 rw [h1,List.getElem_zip]
 unfold bE
 dsimp only
 split
 ·
  simp
 ·
  rename_i e
  rw [e]
  rename_i b
  cases b <;> simp
theorem turn_same:∀ (n:Nat) (us vs:List Bool),us.length=vs.length→(((vs.map some).zip (us.map some)).zipIdx n |>.filter fun x=>bE x.1)=[]→us=vs
 | n,[],[],_,_=>rfl
 | n,[],b::vs,h,_=>by simp at h
 | n,a::us,[],h,_=>by simp at h
 | n,a::us,b::vs,h,e=>by
  rw [List.map_cons,List.map_cons,List.zip_cons_cons,List.zipIdx_cons,List.filter_cons] at e
  cases c:bE (some b,some a)
  ·
   rw [c] at e
   rw [turn_same (n+1) us vs (by simpa using h) (by simpa using e)]
   congr 1
   cases a <;> cases b <;> first | rfl | (simp [bE] at c)
  ·
   rw [c] at e
   simp at e
theorem keeps_self {R:Ring} {w:Wish} {ws:List Bool} (h:dW R w ws):dW R ⟨w.top,w.strict,ws.map some,0⟩ ws:=by
 refine ⟨h.1,?_⟩
 show (cx (ws.map some) (ws.map some)).length≤0
 rw [turn_self]
 exact Nat.le_refl 0
theorem keeps_only {R:Ring} {q:Rat} {st:Bool} {us vs:List Bool} (hl:us.length=vs.length) (h:dW R ⟨q,st,vs.map some,0⟩ us):us=vs:=by
 have h2:(cx (vs.map some) (us.map some)).length≤0:=h.2
 unfold cx at h2
 rw [List.length_map] at h2
 exact turn_same 0 us vs hl (List.length_eq_zero_iff.mp (by omega))
def isNon:D→Bool
 | .non=>true
 | _=>false
theorem non_is {d:D}:isNon d=true↔d=.non:=by
 unfold isNon
 split <;> simp_all
def keepL (R:Ring) (w:Wish):List (List Bool):=(allW R.asks.length).filter fun ws=>isNon (ez R w ws (aF R (wprt R.asks ws)))
theorem mem_keepL {R:Ring} {w:Wish} {ws:List Bool}:ws∈keepL R w↔ws.length=R.asks.length∧dW R w ws:=by
 unfold keepL
 rw [List.mem_filter,mem_allW,non_is,broken_keeps]
theorem keepL_map {R:Ring} {w:Wish}:(allW R.asks.length).filterMap (fun ws=>if isNon (ez R w ws (aF R (wprt R.asks ws)))=true then some (aQ ws) else none)=(keepL R w).map aQ:=by
 unfold keepL
 generalize allW R.asks.length=l
 induction l with
 | nil=>rfl
 | cons x l ih =>
  rw [List.filterMap_cons,List.filter_cons]
  cases isNon (ez R w x (aF R (wprt R.asks x))) <;> simp [ih]
theorem shape_kept (l:List (List Bool)):bf (.lst (l.map aQ)):=bj (n:=2) (okDs_map l fun x _=>ok_waysD x) (by decide)
theorem eq_kept (l:List (List Bool)):eqD (.lst (l.map aQ)) (.lst [])=l.isEmpty:=by
 rw [eqD_lst]
 cases l <;> simp [toPs,PyData.eqvAll]
theorem sat__law_right:∀ ls post,ls.length=3→fs__law_right ls post→m__law_right (ls++List.replicate 4 .un) (aE ls post):=by
 rintro ls post - ⟨R,w,rfl,hR,hT,h6,hq,he,h⟩
 have al:(allW R.asks.length).length≤sizeLine:=by
  rw [allW_len]
  exact Nat.le_trans (Nat.pow_le_pow_right (by decide) h6) (by decide)
 have comp:∀ (k:List D→Ev→Prop),(∀ l,k ((keepL R w).map aQ) [l,.d (aR R),.d (cf w)])→cV (aK 0) (aN (wBin opIsN (av cL (aVal (wVar 1) (aVal (wVar 2) (aVal (wVar 0) aNil)))) (wC .non))) eM ((allW R.asks.length).map aQ) [.un,.d (aR R),.d (cf w)] [] k:=by
  intro k hk
  refine comp_pure (h:=fun ws=>if isNon (ez R w ws (aF R (wprt R.asks ws)))=true then some (aQ ws) else none) _ _ _ (fun ws hw Q hQ=>?_) fun l=>by rw [List.nil_append,keepL_map]; exact hk l
  walk_at "w"
  refine ⟨R,w,ws,rfl,hR,hT,mem_allW.mp hw,hq.mono (by decide),?_⟩
  generalize ez R w ws (aF R (wprt R.asks ws))=d at hQ ⊢
  walk_at "w"
  cases e:isNon d
  ·
   rw [e] at hQ
   have:d≠.non:=fun z=>by rw [z] at e; cases e
   rw [if_neg (by cases d <;> simp_all)]
   exact hQ
  ·
   rw [e] at hQ
   rw [non_is.mp e]
   unfold eM
   walk_at "w"
   exact hQ
 unfold m__law_right
 walk_at "w"
 refine ⟨R,w,rfl,hR,hq,by omega,fun vs hv hk=>?_,fun T ht hz hn=>?_⟩
 ·
  walk_at "w"
  unfold eO
  walk_at "w"
  refine ⟨al,comp _ fun l a=>?_⟩
  have hm:vs∈keepL R w:=mem_keepL.mpr ⟨hv,hk⟩
  have ne:(keepL R w).isEmpty=false:=by
   cases e:keepL R w
   ·
    rw [e] at hm
    cases hm
   ·
    rfl
  walk_at "w"
  unfold eN
  walk_at "w"
  refine ⟨by decide,fun _=>⟨Nat.zero_le _,fun _=>⟨shape_kept _,bj (n:=1) rfl (by decide),?_⟩⟩⟩
  rw [eq_kept,ne]
  refine ⟨_,atI_0,sh_ways,sh_ways,?_⟩
  rw [eqD_str,decide_eq_true rfl,if_neg (by decide)]
  unfold eL
  walk_at "w"
  refine ⟨Nat.zero_le _,fun _=>⟨shape_kept _,bj (n:=1) rfl (by decide),?_⟩⟩
  rw [eq_kept,ne,if_neg (by decide)]
  unfold c__law_right_3
  walk_at "w"
  refine ⟨shape_ways vs,depth_ways vs,all_shape _,?_⟩
  rw [any_ways,decide_eq_true hm]
  walk_at "w"
  unfold c__law_right_4
  rw [show cf w=.tup [frD w.top,.bl w.strict,elD w.elder,.int (w.most:Int)] from rfl]
  walk_at "w"
  have ew:D.tup [frD w.top,.bl w.strict,aQ vs,.int 0]=cf ⟨w.top,w.strict,vs.map some,0⟩:=by
   rw [waysD_el]
   rfl
  rw [ew]
  refine ⟨by decide,R,⟨w.top,w.strict,vs.map some,0⟩,rfl,hR,hq,by omega,fun us hu hk2=>?_,fun T2 _ _ hn2=>?_⟩
  ·
   have eu:us=vs:=keeps_only (by omega) hk2
   rw [eu]
   walk_at "w"
   unfold c__law_right_5
   walk_at "w"
   have ow:okD 2 (.tup [.str "ways",aQ vs])=true:=by
    show (okD 1 (.str "ways") && (okD 1 (aQ vs) && true))=true
    rw [ok_waysD]
    decide +kernel
   rw [eqD_refl ow]
   exact ⟨by decide,bj ow (by decide),bj ow (by decide),_,ag (ag (ag az)),h⟩
  ·
   exact absurd (keeps_self hk) (hn2 vs hv)
 ·
  walk_at "w"
  unfold eO
  walk_at "w"
  refine ⟨al,comp _ fun l a=>?_⟩
  have ne:keepL R w=[]:=by
   cases e:keepL R w
   ·
    rfl
   ·
    rename_i y ys
    obtain ⟨h1,h2⟩:=mem_keepL.mp (show y∈keepL R w by rw [e]; simp)
    exact absurd h2 (hn y h1)
  rw [ne]
  walk_at "w"
  unfold eN
  walk_at "w"
  have el:bf (.lst []):=bj (n:=1) rfl (by decide)
  have en:eqD (.lst []) (.lst [])=true:=rfl
  refine ⟨by decide,fun _=>⟨Nat.zero_le _,fun _=>⟨el,el,?_⟩⟩⟩
  rw [en]
  refine ⟨_,atI_1,sh_none,sh_none,?_⟩
  rw [eqD_str,decide_eq_true rfl,if_neg (by decide)]
  unfold eL
  walk_at "w"
  refine ⟨Nat.zero_le _,fun _=>⟨el,el,?_⟩⟩
  rw [en,if_pos rfl]
  refine ⟨R,w,T,rfl,hR,hq,ht,by omega,?_⟩
  exact ⟨_,ag (ag (ag az)),h⟩
def fs__law_ways:FS:=fun ls post=>∃ (a:Addr) (xs:List D) (n:Nat),ls=[.own a xs,.d (.int (n:Int))]∧StOk xs∧n≤20∧∀ (ws:List Bool) (c:Addr) (ys:List D),StOk ys→ws.length=n→post (.own c (ws.map fun w=>D.str (wayS w))) [.own a ys,.d (.int (n:Int))]
def b__law_ways_0:W L:=(wBin opIx (wLst (aVal (wC (.str "on")) (aVal (wC (.str "back")) aNil))) (a8 ay 0 1 (aVar 1 (aVal (wC (.int 2)) aNil))))
def m__law_ways:W Fl:=(wRet (cb 1 [0] (wRng1 (wVar 1)) (aK 0) b6 b__law_ways_0))
theorem sat__law_ways:∀ ls post,ls.length=2→fs__law_ways ls post→m__law_ways (ls++List.replicate 0 .un) (aE ls post):=by
 rintro ls post - ⟨a,xs,n,rfl,hx,hn,h⟩
 unfold m__law_ways
 walk_at "w"
 refine ⟨⟨by omega,by omega⟩,?_⟩
 rw [Int.toNat_natCast,rngD_map]
 refine ⟨by rw [List.length_map,List.length_range]; exact Nat.le_trans hn (by decide),?_⟩
 refine comp_inv _ (fun j ρ acc=>∃ (l:L) (ys:List D) (ws:List Bool),ρ=[l,.own a ys]∧StOk ys∧ws.length=j∧acc=ws.map fun w=>D.str (wayS w)) _ _ ⟨_,xs,[],rfl,hx,rfl,rfl⟩ ?_ ?_
 ·
  rintro j x ρ acc hj ⟨l,ys,ws,rfl,hy,hw,rfl⟩ Q hQ
  unfold b__law_ways_0
  walk_at "w"
  simp only [b6,if_true]
  walk_at "w"
  refine ⟨by decide,fun _=>⟨a,ys,2,rfl,hy,by decide,by decide,fun r zs hz r0 r1=>⟨zs,rfl,?_⟩⟩⟩
  walk_at "w"
  have hr:r=0∨r=1:=by omega
  rcases hr with rfl | rfl
  ·
   exact ⟨_,atI_0,hQ _ _ ⟨_,zs,ws++[true],rfl,hz,by simp [hw],by rw [List.map_append]; rfl⟩⟩
  ·
   exact ⟨_,atI_1,hQ _ _ ⟨_,zs,ws++[false],rfl,hz,by simp [hw],by rw [List.map_append]; rfl⟩⟩
 ·
  rintro ρ acc ⟨l,ys,ws,rfl,hy,hw,rfl⟩
  rw [List.length_map,List.length_range] at hw
  intro c
  walk_at "w"
  exact ⟨_,dS (by simp) (ag az),h ws c ys hy hw⟩
def fs__law_wish:FS:=fun ls post=>∃ (a:Addr) (xs:List D) (R:Ring) (el:List (Option Bool)),ls=[.own a xs,.d (aR R),.d (elD el)]∧StOk xs∧R.Ok∧(∀ a∈R.asks,RB 60 a.size)∧el.length=R.asks.length∧∀ (w:Wish) (ys:List D),StOk ys→w.elder=el→RB 1750 w.top→post (.d (cf w)) [.own a ys,.d (aR R),.d (elD el)]
def c__law_wish_1:W Fl:=(wRet (wTup (aVal (wVar 3) (aVal (wBin opEq (a8 ay 0 0 (aVar 0 (aVal (wC (.int 2)) aNil))) (wC (.int 0))) (aVal (wVar 2) (aVal (wFrz (a8 ay 0 0 (aVar 0 (aVal (wFrz (wBin bI (aL bA (aVal (wBin opIx (wVar 1) (wC (.int 1))) aNil)) (wC (.int 2)))) aNil)))) aNil))))))
def c__law_wish_0:W Fl:=(wSeq (wIf (aN (wBin opEq (a8 ay 0 0 (aVar 0 (aVal (wC (.int 3)) aNil))) (wC (.int 0)))) (wSet 3 (wFrz (av dL (aVal (wFrz (wBin aV (wBin opIx (wVar 3) (wC (.int 0))) (wC (.int 3)))) (aVal (wFrz (wBin aV (wBin opIx (wVar 3) (wC (.int 1))) (wC (.int 4)))) aNil))))) bt)
  c__law_wish_1)
def m__law_wish:W Fl:=(wSeq (wSet 3 (wBin opIx (av fs_top_of (aVal (wVar 1) (aVal (wFrz (av dg (aVal (wVar 1) (aVal (wFrz (a8 fs__law_ways 0 0 (aVar 0 (aVal (wFrz (aL bA (aVal (wBin opIx (wVar 1) (wC (.int 1))) aNil))) aNil)))) aNil)))) aNil))) (wC (.int 0))))
  c__law_wish_0)
theorem sat__law_wish:∀ ls post,ls.length=3→fs__law_wish ls post→m__law_wish (ls++List.replicate 1 .un) (aE ls post):=by
 rintro ls post - ⟨a,xs,R,el,rfl,hx,hR,hT,he,h⟩
 have few:=hR.few
 have hT1:S61 R:=fun a ha=>(hT a ha).mono (by decide)
 have i7:((R.asks.length:Int)+2)≤10 ^ 60:=Int.le_trans (show (R.asks.length:Int)+2≤22 by omega) (by decide)
 have rest:∀ (q:Rat) (ys:List D),StOk ys→RB 1750 q→c__law_wish_1 [.own a ys,.d (aR R),.d (elD el),.d (frD q)] (aE [.own a xs,.d (aR R),.d (elD el)] post):=by
  intro q ys hy hq
  unfold c__law_wish_1
  walk_at "w"
  refine ⟨a,ys,2,rfl,hy,by decide,by decide,fun r y1 hy1 r0 r1=>⟨y1,rfl,?_⟩⟩
  walk_at "w"
  refine ⟨a,y1,_,rfl,hy1,by omega,i7,fun r2 y2 hy2 r20 r21=>⟨y2,rfl,?_⟩⟩
  walk_at "w"
  obtain ⟨n,rfl⟩:=Int.eq_ofNat_of_zero_le r20
  exact ⟨by decide,_,dS (by simp) (ag (ag az)),h ⟨q,decide (r=0),el,n⟩ y2 hy2 rfl hq⟩
 unfold m__law_wish
 walk_at "w"
 refine ⟨a,xs,R.asks.length,rfl,hx,few,fun ws c1 x1 hx1 hw=>⟨x1,rfl,?_⟩⟩
 walk_at "w"
 refine ⟨R,ws,rfl,few,hw,fun c2=>?_⟩
 walk_at "w"
 refine ⟨R,wprt R.asks ws,rfl,hR,wprt_len hw,LB.ways hR hT1 ws,?_⟩
 have e2:aF R (wprt R.asks ws) (topI R.n (aF R (wprt R.asks ws)))=topW R ws:=rfl
 unfold topP
 rw [e2]
 have tb:=topB_rb hR hT1 ws
 walk_at "w"
 unfold c__law_wish_0
 walk_at "w"
 refine ⟨a,x1,3,rfl,hx1,by decide,by decide,fun r y hy r0 r1=>⟨y,rfl,?_⟩⟩
 walk_at "w"
 by_cases c:r=0
 ·
  rw [if_pos c]
  have dq:((topW R ws).den:Int).natAbs < 2 ^ 1301:=by rw [Int.natAbs_natCast]; exact tb.2
  have d4:((topW R ws).den*4:Int).natAbs < 2 ^ 1361:=by
   rw [Int.natAbs_mul]
   exact aS (m:=1301) (n:=60) dq (show (4:Int).natAbs < 2 ^ 60 by decide)
  have n3:((topW R ws).num*3).natAbs < 2 ^ 1361:=by
   rw [Int.natAbs_mul]
   exact aS (m:=1301) (n:=60) tb.1 (show (3:Int).natAbs < 2 ^ 60 by decide)
  have nz:((topW R ws).den*4:Int)≠0:=by have:=(topW R ws).den_pos; omega
  refine ⟨cJ tb.1 (by decide),cJ (i:=3) (n:=60) (by decide) (by decide),cJ dq (by decide),cJ (i:=4) (n:=60) (by decide) (by decide),?_⟩
  refine ⟨_,_,rfl,nz,Nat.lt_of_lt_of_le d4 (Nat.pow_le_pow_right (by decide) (by decide)),?_⟩
  exact rest _ y hy ((RB.of_divInt nz n3 d4).mono (by decide))
 ·
  rw [if_neg c]
  exact rest _ y hy (tb.mono (by decide))
def fs_law:FS:=fun ls post=>∃ ns:List Int,ls=[.d (.lst (ns.map .int))]∧ns.length≤63∧post (.d (.bl true)) ls
theorem law_holds {ns:List Int} (hl:ns.length≤63):fs_law [.d (.lst (ns.map .int))] (fun r _=>r=.d (.bl true)):=⟨ns,rfl,hl,rfl⟩
def b_law_0:W Fl:=(wIf (wNot (aN (av fs__law_right (aVal (wVar 1) (aVal (wFrz (av fs__law_wish (aVal (av bo (aVal (wVar 0) (aVal (wVar 5) aNil))) (aVal (wVar 1) (aVal (wVar 4) aNil))))) (aVal (wVar 2) aNil)))))) (wRet (wC (.bl false))) bt)
def c_law_4:W Fl:=(wRet (av cn (aVal (wVar 1) (aVal (wVar 2) aNil))))
def b_law_1:W L:=(wBin opIx (wLst (aVal (wC (.str "on")) (aVal (wC (.str "back")) (aVal (wC .non) aNil)))) (a8 ay 0 1 (aVar 1 (aVal (wC (.int 3)) aNil))))
def c_law_3:W Fl:=(wSeq (wFor (wRng2 (wC (.int 4)) (aL opMax (aVal (wC (.int 5)) (aVal (wFrz (aL opMin (aVal (wFrz (aL bA (aVal (wVar 0) aNil))) (aVal (wC (.int 9)) aNil)))) aNil)))) (aK 5) b_law_0)
  c_law_4)
def c_law_2:W Fl:=(wSeq (wSet 4 (cb 1 [3] (wSrc (wBin opIx (wVar 1) (wC (.int 1)))) (aK 0) b6 b_law_1))
  c_law_3)
def c_law_1:W Fl:=(wSeq (wSet 3 (av bo (aVal (wVar 0) (aVal (wC (.int 3)) aNil))))
  c_law_2)
def c_law_0:W Fl:=(wSeq (wSet 2 (wFrz (av c7 (aVal (wFrz (aL bA (aVal (wBin opIx (wVar 1) (wC (.int 1))) aNil))) aNil))))
  c_law_1)
def m_law:W Fl:=(wSeq (wSet 1 (wFrz (av fs__law_ring (aVal (wVar 0) (aVal (wC (.int 0)) (aVal (wC (.int 5)) (aVal (wC (.int 4)) aNil)))))))
  c_law_0)
theorem sat_law:∀ ls post,ls.length=1→fs_law ls post→m_law (ls++List.replicate 5 .un) (aE ls post):=by
 rintro ls post - ⟨ns,rfl,hl,h⟩
 unfold m_law
 walk_at "w"
 refine ⟨ns,0,5,4,rfl,by decide,by decide,by decide,by decide,fun R hD=>?_⟩
 have hR:=hD.ok
 have few:=hD.few
 walk_at "w"
 unfold c_law_0
 walk_at "w"
 refine ⟨_,rfl,by omega,fun c1=>?_⟩
 walk_at "w"
 unfold c_law_1
 walk_at "w"
 refine ⟨ns,3,rfl,by decide,by decide,fun a xs hx=>?_⟩
 walk_at "w"
 unfold c_law_2
 walk_at "w"
 refine ⟨Nat.le_trans few (by decide),?_⟩
 refine comp_inv _ (fun j ρ acc=>∃ (l:L) (ys:List D) (el:List (Option Bool)),ρ=[l,.own a ys]∧StOk ys∧el.length=j∧acc=el.map optW) _ _ ⟨_,xs,[],rfl,hx,rfl,rfl⟩ ?_ ?_
 ·
  rintro j x ρ acc hj ⟨l,ys,el,rfl,hy,he,rfl⟩ Q hQ
  unfold b_law_1
  walk_at "w"
  simp only [b6,if_true]
  walk_at "w"
  refine ⟨by decide,fun _=>⟨a,ys,3,rfl,hy,by decide,by decide,fun r zs hz r0 r1=>⟨zs,rfl,?_⟩⟩⟩
  walk_at "w"
  have hr:r=0∨r=1∨r=2:=by omega
  rcases hr with rfl | rfl | rfl
  ·
   exact ⟨_,atI_0,hQ _ _ ⟨_,zs,el++[some true],rfl,hz,by simp [he],by rw [List.map_append]; rfl⟩⟩
  ·
   exact ⟨_,atI_1,hQ _ _ ⟨_,zs,el++[some false],rfl,hz,by simp [he],by rw [List.map_append]; rfl⟩⟩
  ·
   exact ⟨_,atI_2,hQ _ _ ⟨_,zs,el++[none],rfl,hz,by simp [he],by rw [List.map_append]; rfl⟩⟩
 rintro ρ acc ⟨l,ys,el,rfl,hy,he,rfl⟩
 rw [List.length_map] at he
 intro c3
 walk_at "w"
 unfold c_law_3
 walk_at "w"
 refine ⟨⟨by decide,by decide⟩,⟨?_,?_⟩,?_⟩
 ·
  split <;> split <;> omega
 ·
  split <;> split <;> omega
 refine forR_inv _ _ (fun i ρ=>∃ x3 x4 x5,ρ=[.d (.lst (ns.map .int)),.d (aR R),.d (.lst ((allW R.asks.length).map aQ)),x3,x4,x5]∧(x4=.d (elD el)∨∃ c,x4=.own c (el.map optW))) _ ⟨_,_,_,rfl,.inr ⟨_,rfl⟩⟩ ?_ ?_
 ·
  rintro i ρ hi ⟨x3,x4,x5,rfl,hx4⟩ Q h1 h2 h3 h4
  have hi':i < 6:=by
   split at hi <;> split at hi <;> omega
  unfold b_law_0
  rcases hx4 with rfl | ⟨c5,rfl⟩
  all_goals
   walk_at "w"
   refine ⟨ns,4+i,rfl,by omega,by omega,fun b us hu=>?_⟩
   walk_at "w"
   refine ⟨b,us,R,el,rfl,hu,hR,hD.tt,he,fun w zs hz hwe hwt=>?_⟩
   walk_at "w"
   refine ⟨R,w,rfl,hR,hD.tt,by omega,hwt,by rw [hwe]; exact he,?_⟩
   walk_at "w"
   exact h1 _ ⟨_,_,_,rfl,.inl rfl⟩
 ·
  rintro ρ ⟨x3,x4,x5,rfl,_⟩
  unfold c_law_4
  walk_at "w"
  refine ⟨R,rfl,hR,hD.tt,by omega,?_⟩
  exact ⟨_,ag az,h⟩
structure Tx (K:PySem.W.Frag) (mg:Str→Option Value) (ad:Nat→Addr) (fd:Nat→FuncData):Prop where
 x_greatest_shared:FX K mg "greatest_shared" cz (ad 0) (fd 0) ["one","other"]
 x_least_common:FX K mg "least_common" eA (ad 1) (fd 1) ["one","other"]
 x_is_whole:FX K mg "is_whole" s_is_whole (ad 2) (fd 2) ["thing"]
 x_is_number_below:FX K mg "is_number_below" cA (ad 3) (fd 3) ["thing","many"]
 x_are_two_wholes:FX K mg "are_two_wholes" cX (ad 4) (fd 4) ["thing"]
 x_is_ratio:FX K mg "is_ratio" s_is_ratio (ad 5) (fd 5) ["thing"]
 x_is_told_as:FX K mg "is_told_as" s_is_told_as (ad 6) (fd 6) ["thing","word","length"]
 x_lowest:FX K mg "lowest" s_lowest (ad 7) (fd 7) ["top","bottom"]
 x_plus:FX K mg "plus" s_plus (ad 8) (fd 8) ["one","other"]
 x_minus:FX K mg "minus" s_minus (ad 9) (fd 9) ["one","other"]
 x_times:FX K mg "times" s_times (ad 10) (fd 10) ["one","other"]
 x_over:FX K mg "over" s_over (ad 11) (fd 11) ["one","other"]
 x_under:FX K mg "under" s_under (ad 12) (fd 12) ["one","other"]
 x_sum_of:FX K mg "sum_of" s_sum_of (ad 13) (fd 13) ["some"]
 x_is_cut:FX K mg "is_cut" s_is_cut (ad 14) (fd 14) ["ring","thing"]
 x_is_within:FX K mg "is_within" s_is_within (ad 15) (fd 15) ["cut","place"]
 x_parts_places:FX K mg "parts_places" eB (ad 16) (fd 16) ["cut","one","other"]
 x_all_cuts:FX K mg "all_cuts" s_all_cuts (ad 17) (fd 17) ["ring"]
 x_common_bottom:FX K mg "common_bottom" dB (ad 18) (fd 18) ["some"]
 x_in_units:FX K mg "in_units" s_in_units (ad 19) (fd 19) ["some","units"]
 x_weighed:FX K mg "weighed" s_weighed (ad 20) (fd 20) ["ring","top"]
 x_is_way:FX K mg "is_way" s_is_way (ad 21) (fd 21) ["thing"]
 x_other_way:FX K mg "other_way" s_other_way (ad 22) (fd 22) ["way"]
 x_is_over:FX K mg "is_over" s_is_over (ad 23) (fd 23) ["ring","k","way","tie"]
 x_sent_over:FX K mg "sent_over" s_sent_over (ad 24) (fd 24) ["ring","sending","k","tie"]
 x_load_of:FX K mg "load_of" s_load_of (ad 25) (fd 25) ["ring","sending","tie"]
 x_loads_of:FX K mg "loads_of" s_loads_of (ad 26) (fd 26) ["ring","sending"]
 x_strains_of:FX K mg "strains_of" dY (ad 27) (fd 27) ["ring","sending"]
 x_top_of:FX K mg "top_of" s_top_of (ad 28) (fd 28) ["ring","sending"]
 x_are_ways:FX K mg "are_ways" s_are_ways (ad 29) (fd 29) ["ring","thing"]
 x_sent_by:FX K mg "sent_by" s_sent_by (ad 30) (fd 30) ["ring","ways"]
 x_top_by:FX K mg "top_by" s_top_by (ad 31) (fd 31) ["ring","ways"]
 x_are_ways_with_top:FX K mg "are_ways_with_top" b7 (ad 32) (fd 32) ["ring","thing","top"]
 x_turned_by:FX K mg "turned_by" fH (ad 33) (fd 33) ["elder","ways"]
 x_is_too_much:FX K mg "is_too_much" fI (ad 34) (fd 34) ["wish","load","bound"]
 x_are_too_many:FX K mg "are_too_many" eD (ad 35) (fd 35) ["wish","ways"]
 x_broken_wish:FX K mg "broken_wish" fJ (ad 36) (fd 36) ["ring","wish","ways"]
 x_is_split:FX K mg "is_split" s_is_split (ad 37) (fd 37) ["thing"]
 x_times_over:FX K mg "times_over" dZ (ad 38) (fd 38) ["ring","k","way","cut"]
 x_is_too_full:FX K mg "is_too_full" de (ad 39) (fd 39) ["ring","wish","scale","fixed","cut"]
 x_can_stand:FX K mg "can_stand" s_can_stand (ad 40) (fd 40) ["ring","wish","scale","fixed","thing"]
 x_branch_of:FX K mg "branch_of" s_branch_of (ad 41) (fd 41) ["here","way"]
 x_look_at_tree:FX K mg "look_at_tree" cK (ad 42) (fd 42) ["ring","wish","thing"]
 x_is_tree:FX K mg "is_tree" s_is_tree (ad 43) (fd 43) ["ring","wish","thing"]
 x_reason_against:FX K mg "reason_against" cY (ad 44) (fd 44) ["wish","bounds","fixed","loads"]
 x_searched:FX K mg "searched" s_searched (ad 45) (fd 45) ["ring","wish","sizes","bounds","fixed","loads"]
 x_bounds_of:FX K mg "bounds_of" dC (ad 46) (fd 46) ["ring","scale"]
 x_ways_for:FX K mg "ways_for" s_ways_for (ad 47) (fd 47) ["ring","wish"]
 x_wish_for_less:FX K mg "wish_for_less" cg (ad 48) (fd 48) ["ring","top"]
 x_best_ways:FX K mg "best_ways" fK (ad 49) (fd 49) ["ring"]
 x_lets_best:FX K mg "lets_best" s_lets_best (ad 50) (fd 50) ["ring","thing"]
 x__law_begun:FX K mg "_law_begun" s__law_begun (ad 51) (fd 51) ["_law_script","_law_k"]
 x__law_take:FX K mg "_law_take" s__law_take (ad 52) (fd 52) ["_law_state","_law_many"]
 x__law_names:FX K mg "_law_names" cR (ad 53) (fd 53) ["_law_state","_law_many"]
 x__law_low:FX K mg "_law_low" s__law_low (ad 54) (fd 54) ["_law_top","_law_bottom"]
 x__law_amount:FX K mg "_law_amount" fL (ad 55) (fd 55) ["_law_state","_law_least","_law_kind"]
 x__law_rooms:FX K mg "_law_rooms" s__law_rooms (ad 56) (fd 56) ["_law_state","_law_ties","_law_kind"]
 x__law_ends:FX K mg "_law_ends" s__law_ends (ad 57) (fd 57) ["_law_state","_law_shape","_law_places","_law_k"]
 x__law_ring:FX K mg "_law_ring" s__law_ring (ad 58) (fd 58) ["_law_script","_law_at","_law_most","_law_count"]
 x__law_all_ways:FX K mg "_law_all_ways" bF (ad 59) (fd 59) ["_law_many"]
 x__law_under:FX K mg "_law_under" s__law_under (ad 60) (fd 60) ["_law_one","_law_other"]
 x__law_best_right:FX K mg "_law_best_right" cB (ad 61) (fd 61) ["_law_ring_here","_law_every"]
 x__law_lets:FX K mg "_law_lets" s__law_lets (ad 62) (fd 62) ["_law_ring_here","_law_wish_here","_law_tree"]
 x__law_right:FX K mg "_law_right" d5 (ad 63) (fd 63) ["_law_ring_here","_law_wish_here","_law_every"]
 x__law_ways:FX K mg "_law_ways" fM (ad 64) (fd 64) ["_law_state","_law_many"]
 x__law_wish:FX K mg "_law_wish" s__law_wish (ad 65) (fd 65) ["_law_state","_law_ring_here","_law_elder"]
 x_law:FX K mg "law" s_law (ad 66) (fd 66) ["_law_script"]
 z_abs:mg "abs"=none
 z_all:mg "all"=none
 z_bool:mg "bool"=none
 z_enumerate:mg "enumerate"=none
 z_int:mg "int"=none
 z_isinstance:mg "isinstance"=none
 z_len:mg "len"=none
 z_list:mg "list"=none
 z_max:mg "max"=none
 z_min:mg "min"=none
 z_range:mg "range"=none
 z_reversed:mg "reversed"=none
 z_str:mg "str"=none
 z_sum:mg "sum"=none
 z_tuple:mg "tuple"=none
 z_zip:mg "zip"=none
 g_BACK:GlobT K mg "BACK" (.str "back")
 g_CUT:GlobT K mg "CUT" (.str "cut")
 g_MOST_SEARCHED:GlobT K mg "MOST_SEARCHED" (.int 7)
 g_MOST_WALKED:GlobT K mg "MOST_WALKED" (.int 300)
 g_NOUGHT:GlobT K mg "NOUGHT" (.tup [(.int 0),(.int 1)])
 g_ON:GlobT K mg "ON" (.str "on")
 g_SPLIT:GlobT K mg "SPLIT" (.str "split")
 g_TURNED:GlobT K mg "TURNED" (.str "turned")
section
variable {P:Program} {w:World} {K:PySem.W.Frag} {mg:Str→Option Value} {base:Heap} {ad:Nat→Addr} {fd:Nat→FuncData}
theorem bw:aq N_greatest_shared ["one","other"] (ai cz):=⟨rfl,rfl,rfl,by decide +kernel,rfl,by decide +kernel,by decide +kernel⟩
set_option maxHeartbeats 0 in
theorem cp (T:Tx K mg ad fd):FnOk P w K mg base CX0 1 (ad 0) (fd 0) ["one","other"] (spF K 2 a7) :=
 aJ (k:=0) T.x_greatest_shared.f bw cC (fun cdv A outer s H E hr=>(ah (pm_while PassesOwn.never (pbc (od_ne hr.units) (ac 1) af (aD _)) (ah (au (i:=2) bw.nd rfl (by walk_at "o") (ao cP (ac 0) (ac 1)))
  (ah (au (i:=0) bw.nd rfl (by walk_at "o") (ac 1))
  (aj (au (i:=1) bw.nd rfl (by walk_at "o") (ac 2))))))
  (aj (ar (aC cd_abs rfl T.z_abs (by decide +kernel) (ab (ac 0) ae))))))
  sat_greatest_shared
theorem sc_least_common:aq N_least_common ["one","other"] (ai eA):=⟨rfl,rfl,rfl,by decide +kernel,rfl,by decide +kernel,by decide +kernel⟩
set_option maxHeartbeats 0 in
theorem ok_least_common (T:Tx K mg ad fd):FnOk P w K mg base CX0 2 (ad 1) (fd 1) ["one","other"] (spF K 2 dE) :=
 aJ (k:=1) T.x_least_common.f sc_least_common eE (fun cdv A outer s H E hr=>(aj (ar (ao aO (ao od_div (ac 0) (ax (cp T) T.x_greatest_shared hr (ab (ac 0) (ab (ac 1) ae)))) (ac 1)))))
  sat_least_common
theorem sc_is_whole:aq N_is_whole ["thing"] (ai s_is_whole):=⟨rfl,rfl,rfl,by decide +kernel,rfl,by decide +kernel,by decide +kernel⟩
set_option maxHeartbeats 0 in
theorem ok_is_whole (T:Tx K mg ad fd):FnOk P w K mg base CX0 1 (ad 2) (fd 2) ["thing"] (spF K 1 dF) :=
 aJ (k:=0) T.x_is_whole.f sc_is_whole m_is_whole (fun cdv A outer s H E hr=>(aj (ar (c8 (pl_isT kit_int rfl T.z_isinstance rfl T.z_int (by decide +kernel) (ac 0)) (pl_one (pl_not (pl_isT kit_bool rfl T.z_isinstance rfl T.z_bool (by decide +kernel) (ac 0))))))))
  sat_is_whole
theorem sc_is_number_below:aq N_is_number_below ["thing","many"] (ai cA):=⟨rfl,rfl,rfl,by decide +kernel,rfl,by decide +kernel,by decide +kernel⟩
set_option maxHeartbeats 0 in
theorem ok_is_number_below (T:Tx K mg ad fd):FnOk P w K mg base CX0 2 (ad 3) (fd 3) ["thing","many"] (spF K 2 ci) :=
 aJ (k:=1) T.x_is_number_below.f sc_is_number_below cD (fun cdv A outer s H E hr=>(aj (ar (c8 (ax (ok_is_whole T) T.x_is_whole hr (ab (ac 0) ae)) (pl_one (pl_chain ci_le ci_lt af (ac 0) (ac 1)))))))
  sat_is_number_below
theorem sc_are_two_wholes:aq N_are_two_wholes ["thing"] (ai cX):=⟨rfl,rfl,rfl,by decide +kernel,rfl,by decide +kernel,by decide +kernel⟩
set_option maxHeartbeats 0 in
theorem fo (T:Tx K mg ad fd):FnOk P w K mg base CX0 2 (ad 4) (fd 4) ["thing"] (spF K 1 bJ) :=
 aJ (k:=1) T.x_are_two_wholes.f sc_are_two_wholes bV (fun cdv A outer s H E hr=>(aj (ar (c8 (pl_isT kit_tuple rfl T.z_isinstance rfl T.z_tuple (by decide +kernel) (ac 0)) (c8 (bu (cQ hr.units) (aC bg rfl T.z_len (by decide +kernel) (ab (ac 0) ae)) af (aD _)) (c8 (ax (ok_is_whole T) T.x_is_whole hr (ab (ak (ac 0) af (fun _ _=>rfl)) ae)) (pl_one (ax (ok_is_whole T) T.x_is_whole hr (ab (ak (ac 0) af (fun _ _=>rfl)) ae)))))))))
  sat_are_two_wholes
theorem sc_is_ratio:aq N_is_ratio ["thing"] (ai s_is_ratio):=⟨rfl,rfl,rfl,by decide +kernel,rfl,by decide +kernel,by decide +kernel⟩
set_option maxHeartbeats 0 in
theorem ok_is_ratio (T:Tx K mg ad fd):FnOk P w K mg base CX0 3 (ad 5) (fd 5) ["thing"] (spF K 1 fs_is_ratio) :=
 aJ (k:=2) T.x_is_ratio.f sc_is_ratio m_is_ratio (fun cdv A outer s H E hr=>(aj (ar (c8 (ax (fo T) T.x_are_two_wholes hr (ab (ac 0) ae)) (c8 (bu od_ge (ak (ac 0) af (fun _ _=>rfl)) af (aD _)) (pl_one (bu (cQ hr.units) (ax (cp T) T.x_greatest_shared hr (ab (ak (ac 0) af (fun _ _=>rfl)) (ab (ak (ac 0) af (fun _ _=>rfl)) ae))) af (aD _))))))))
  sat_is_ratio
theorem sc_is_told_as:aq N_is_told_as ["thing","word","length"] (ai s_is_told_as):=⟨rfl,rfl,rfl,by decide +kernel,rfl,by decide +kernel,by decide +kernel⟩
set_option maxHeartbeats 0 in
theorem ok_is_told_as (T:Tx K mg ad fd):FnOk P w K mg base CX0 1 (ad 6) (fd 6) ["thing","word","length"] (spF K 3 cj) :=
 aJ (k:=0) T.x_is_told_as.f sc_is_told_as m_is_told_as (fun cdv A outer s H E hr=>(ah (bD (PBw.pb (pbw_or (pb_not (bL (pl_isT kit_tuple rfl T.z_isinstance rfl T.z_tuple (by decide +kernel) (ac 0)))) (pbw_or1 (pbc (od_ne hr.units) (aC bg rfl T.z_len (by decide +kernel) (ab (ac 0) ae)) (ac 2) (aD _))))) (aj (ar pl_bl)) aH)
  (aj (ar (c8 (pl_isT kit_str rfl T.z_isinstance rfl T.z_str (by decide +kernel) (ak (ac 0) af (fun _ _=>rfl))) (pl_one (bu (cQ hr.units) (ak (ac 0) af (fun _ _=>rfl)) (ac 1) (aD _))))))))
  sat_is_told_as
theorem sc_lowest:aq N_lowest ["top","bottom"] (ai s_lowest):=⟨rfl,rfl,rfl,by decide +kernel,rfl,by decide +kernel,by decide +kernel⟩
set_option maxHeartbeats 0 in
theorem ok_lowest (T:Tx K mg ad fd):FnOk P w K mg base CX0 2 (ad 7) (fd 7) ["top","bottom"] (spF K 2 fb) :=
 aJ (k:=1) T.x_lowest.f sc_lowest m_lowest (fun cdv A outer s H E hr=>(ah (au (i:=2) sc_lowest.nd rfl (by walk_at "o") (am (ax (cp T) T.x_greatest_shared hr (ab (ac 0) (ab (ac 1) ae)))))
  (ah (bD (pbc od_lt (ac 1) af (aD _)) (aj (au (i:=2) sc_lowest.nd rfl (by walk_at "o") (pl_neg (ac 2)))) aH)
  (aj (ar (aX (ab (ao od_div (ac 0) (ac 2)) (ab (ao od_div (ac 1) (ac 2)) ae))))))))
  sat_lowest
theorem sc_plus:aq N_plus ["one","other"] (ai s_plus):=⟨rfl,rfl,rfl,by decide +kernel,rfl,by decide +kernel,by decide +kernel⟩
set_option maxHeartbeats 0 in
theorem ok_plus (T:Tx K mg ad fd):FnOk P w K mg base CX0 3 (ad 8) (fd 8) ["one","other"] (spF K 2 fs_plus) :=
 aJ (k:=2) T.x_plus.f sc_plus m_plus (fun cdv A outer s H E hr=>(aj (ar (ax (ok_lowest T) T.x_lowest hr (ab (am (ao aY (ao aO (ak (ac 0) af (fun _ _=>rfl)) (ak (ac 1) af (fun _ _=>rfl))) (ao aO (ak (ac 1) af (fun _ _=>rfl)) (ak (ac 0) af (fun _ _=>rfl))))) (ab (am (ao aO (ak (ac 0) af (fun _ _=>rfl)) (ak (ac 1) af (fun _ _=>rfl)))) ae))))))
  sat_plus
theorem sc_minus:aq N_minus ["one","other"] (ai s_minus):=⟨rfl,rfl,rfl,by decide +kernel,rfl,by decide +kernel,by decide +kernel⟩
set_option maxHeartbeats 0 in
theorem ok_minus (T:Tx K mg ad fd):FnOk P w K mg base CX0 3 (ad 9) (fd 9) ["one","other"] (spF K 2 fs_minus) :=
 aJ (k:=2) T.x_minus.f sc_minus m_minus (fun cdv A outer s H E hr=>(aj (ar (ax (ok_lowest T) T.x_lowest hr (ab (ao od_sub (ao aO (ak (ac 0) af (fun _ _=>rfl)) (ak (ac 1) af (fun _ _=>rfl))) (ao aO (ak (ac 1) af (fun _ _=>rfl)) (ak (ac 0) af (fun _ _=>rfl)))) (ab (am (ao aO (ak (ac 0) af (fun _ _=>rfl)) (ak (ac 1) af (fun _ _=>rfl)))) ae))))))
  sat_minus
theorem sc_times:aq N_times ["one","other"] (ai s_times):=⟨rfl,rfl,rfl,by decide +kernel,rfl,by decide +kernel,by decide +kernel⟩
set_option maxHeartbeats 0 in
theorem ok_times (T:Tx K mg ad fd):FnOk P w K mg base CX0 3 (ad 10) (fd 10) ["one","other"] (spF K 2 fs_times) :=
 aJ (k:=2) T.x_times.f sc_times m_times (fun cdv A outer s H E hr=>(aj (ar (ax (ok_lowest T) T.x_lowest hr (ab (am (ao aO (ak (ac 0) af (fun _ _=>rfl)) (ak (ac 1) af (fun _ _=>rfl)))) (ab (am (ao aO (ak (ac 0) af (fun _ _=>rfl)) (ak (ac 1) af (fun _ _=>rfl)))) ae))))))
  sat_times
theorem sc_over:aq N_over ["one","other"] (ai s_over):=⟨rfl,rfl,rfl,by decide +kernel,rfl,by decide +kernel,by decide +kernel⟩
set_option maxHeartbeats 0 in
theorem ok_over (T:Tx K mg ad fd):FnOk P w K mg base CX0 3 (ad 11) (fd 11) ["one","other"] (spF K 2 fs_over) :=
 aJ (k:=2) T.x_over.f sc_over m_over (fun cdv A outer s H E hr=>(ah (bD (pbc (cQ hr.units) (ak (ac 1) af (fun _ _=>rfl)) af (aD _)) (aj pm_never) aH)
  (aj (ar (ax (ok_lowest T) T.x_lowest hr (ab (am (ao aO (ak (ac 0) af (fun _ _=>rfl)) (ak (ac 1) af (fun _ _=>rfl)))) (ab (am (ao aO (ak (ac 0) af (fun _ _=>rfl)) (ak (ac 1) af (fun _ _=>rfl)))) ae)))))))
  sat_over
theorem sc_under:aq N_under ["one","other"] (ai s_under):=⟨rfl,rfl,rfl,by decide +kernel,rfl,by decide +kernel,by decide +kernel⟩
set_option maxHeartbeats 0 in
theorem ok_under (T:Tx K mg ad fd):FnOk P w K mg base CX0 1 (ad 12) (fd 12) ["one","other"] (spF K 2 fs_under) :=
 aJ (k:=0) T.x_under.f sc_under m_under (fun cdv A outer s H E hr=>(aj (ar (bu od_lt (ao aO (ak (ac 0) af (fun _ _=>rfl)) (ak (ac 1) af (fun _ _=>rfl))) (ao aO (ak (ac 1) af (fun _ _=>rfl)) (ak (ac 0) af (fun _ _=>rfl))) (aD _)))))
  sat_under
theorem sc_sum_of:aq N_sum_of ["some"] (ai s_sum_of):=⟨rfl,rfl,rfl,by decide +kernel,rfl,by decide +kernel,by decide +kernel⟩
set_option maxHeartbeats 0 in
theorem ok_sum_of (T:Tx K mg ad fd):FnOk P w K mg base CX0 4 (ad 13) (fd 13) ["some"] (spF K 1 fs_sum_of) :=
 aJ (k:=3) T.x_sum_of.f sc_sum_of m_sum_of (fun cdv A outer s H E hr=>(ah (au (i:=1) sc_sum_of.nd rfl (by walk_at "o") (pl_G T.g_NOUGHT rfl))
  (ah (eV PassesOwn.never rfl (a9 (ac 0)) (fz (i:=2) sc_sum_of.nd rfl (by walk_at "o")) (aj (au (i:=1) sc_sum_of.nd rfl (by walk_at "o") (ax (ok_plus T) T.x_plus hr (ab (ac 1) (ab (ac 2) ae))))))
  (aj (ar (pl_move 1))))))
  sat_sum_of
theorem sc_is_cut:aq N_is_cut ["ring","thing"] (ai s_is_cut):=⟨rfl,rfl,rfl,by decide +kernel,rfl,by decide +kernel,by decide +kernel⟩
set_option maxHeartbeats 0 in
theorem ok_is_cut (T:Tx K mg ad fd):FnOk P w K mg base CX0 3 (ad 14) (fd 14) ["ring","thing"] (spF K 2 fs_is_cut) :=
 aJ (k:=2) T.x_is_cut.f sc_is_cut m_is_cut (fun cdv A outer s H E hr=>(aj (ar (c8 (ax (fo T) T.x_are_two_wholes hr (ab (ac 1) ae)) (pl_one (pl_chainN af (Links.cons od_le (ak (ac 1) af (fun _ _=>rfl)) (Links.cons od_le (ak (ac 1) af (fun _ _=>rfl)) (Links.one od_lt (aC bg rfl T.z_len (by decide +kernel) (ab (ak (ac 0) af (fun _ _=>rfl)) ae)))))))))))
  sat_is_cut
theorem sc_is_within:aq N_is_within ["cut","place"] (ai s_is_within):=⟨rfl,rfl,rfl,by decide +kernel,rfl,by decide +kernel,by decide +kernel⟩
set_option maxHeartbeats 0 in
theorem ok_is_within (T:Tx K mg ad fd):FnOk P w K mg base CX0 1 (ad 15) (fd 15) ["cut","place"] (spF K 2 d6) :=
 aJ (k:=0) T.x_is_within.f sc_is_within m_is_within (fun cdv A outer s H E hr=>(aj (ar (pl_chain ci_lt ci_le (ak (ac 0) af (fun _ _=>rfl)) (ac 1) (ak (ac 0) af (fun _ _=>rfl))))))
  sat_is_within
theorem sc_parts_places:aq N_parts_places ["cut","one","other"] (ai eB):=⟨rfl,rfl,rfl,by decide +kernel,rfl,by decide +kernel,by decide +kernel⟩
set_option maxHeartbeats 0 in
theorem ok_parts_places (T:Tx K mg ad fd):FnOk P w K mg base CX0 2 (ad 16) (fd 16) ["cut","one","other"] (spF K 3 ck) :=
 aJ (k:=1) T.x_parts_places.f sc_parts_places eF (fun cdv A outer s H E hr=>(aj (ar (bu (od_ne hr.units) (ax (ok_is_within T) T.x_is_within hr (ab (ac 0) (ab (ac 1) ae))) (ax (ok_is_within T) T.x_is_within hr (ab (ac 0) (ab (ac 2) ae))) (aD _)))))
  sat_parts_places
theorem sc_all_cuts:aq N_all_cuts ["ring"] (ai s_all_cuts):=⟨rfl,rfl,rfl,by decide +kernel,rfl,by decide +kernel,by decide +kernel⟩
set_option maxHeartbeats 0 in
theorem ok_all_cuts (T:Tx K mg ad fd):FnOk P w K mg base CX0 1 (ad 17) (fd 17) ["ring"] (spF K 1 fs_all_cuts) :=
 aJ (k:=0) T.x_all_cuts.f sc_all_cuts m_all_cuts (fun cdv A outer s H E hr=>(ah (au (i:=1) sc_all_cuts.nd rfl (by walk_at "o") (bv ae))
  (ah (eV PassesOwn.never rfl (da rfl T.z_range (aC bg rfl T.z_len (by decide +kernel) (ab (ak (ac 0) af (fun _ _=>rfl)) ae))) (fz (i:=2) sc_all_cuts.nd rfl (by walk_at "o")) (aj (fw (pl_extend 1 (bc (sc:=(ai s_all_cuts)) (N:=N_all_cuts) (Nt:=["h"]) (Nf:=["g"]) (fi:=[2]) rfl rfl rfl (pil_rng2 rfl T.z_range (ac 2) (aC bg rfl T.z_len (by decide +kernel) (ab (ak (ac 0) af (fun _ _=>rfl)) ae))) rfl (by decide +kernel) (by decide +kernel) (by decide +kernel) (by decide) rfl (by decide +kernel) (by decide) (fun _ _ _ _=>(ba (by decide) (show ((["h"]:List Str)++(["g"]:List Str)).Nodup by decide +kernel) rfl (Or.inl rfl))) (fun _ _ _ _=>aZ) (fun _ _ _ _=>(aX (ab (ac 1) (ab (ac 0) ae)))))))))
  (aj (ar (pl_move 1))))))
  sat_all_cuts
theorem bX:aq N_common_bottom ["some"] (ai dB):=⟨rfl,rfl,rfl,by decide +kernel,rfl,by decide +kernel,by decide +kernel⟩
set_option maxHeartbeats 0 in
theorem ok_common_bottom (T:Tx K mg ad fd):FnOk P w K mg base CX0 3 (ad 18) (fd 18) ["some"] (spF K 1 cZ) :=
 aJ (k:=2) T.x_common_bottom.f bX dG (fun cdv A outer s H E hr=>(ah (au (i:=1) bX.nd rfl (by walk_at "o") af)
  (ah (eV PassesOwn.never rfl (a9 (ac 0)) (fz (i:=2) bX.nd rfl (by walk_at "o")) (aj (au (i:=1) bX.nd rfl (by walk_at "o") (ax (ok_least_common T) T.x_least_common hr (ab (ac 1) (ab (ak (ac 2) af (fun _ _=>rfl)) ae))))))
  (aj (ar (pl_move 1))))))
  sat_common_bottom
theorem sc_in_units:aq N_in_units ["some","units"] (ai s_in_units):=⟨rfl,rfl,rfl,by decide +kernel,rfl,by decide +kernel,by decide +kernel⟩
set_option maxHeartbeats 0 in
theorem ok_in_units (T:Tx K mg ad fd):FnOk P w K mg base CX0 1 (ad 19) (fd 19) ["some","units"] (spF K 2 fN) :=
 aJ (k:=0) T.x_in_units.f sc_in_units m_in_units (fun cdv A outer s H E hr=>(aj (ar (bc (sc:=(ai s_in_units)) (N:=N_in_units) (Nt:=["one"]) (Nf:=["units"]) (fi:=[1]) rfl rfl rfl (a9 (ac 0)) rfl (by decide +kernel) (by decide +kernel) (by decide +kernel) (by decide) rfl (by decide +kernel) (by decide) (fun _ _ _ _=>(ba (by decide) (show ((["one"]:List Str)++(["units"]:List Str)).Nodup by decide +kernel) rfl (Or.inl rfl))) (fun _ _ _ _=>aZ) (fun _ _ _ _=>(ao aO (ak (ac 0) af (fun _ _=>rfl)) (ao od_div (ac 1) (ak (ac 0) af (fun _ _=>rfl)))))))))
  sat_in_units
theorem sc_weighed:aq N_weighed ["ring","top"] (ai s_weighed):=⟨rfl,rfl,rfl,by decide +kernel,rfl,by decide +kernel,by decide +kernel⟩
set_option maxHeartbeats 0 in
theorem ok_weighed (T:Tx K mg ad fd):FnOk P w K mg base CX0 4 (ad 20) (fd 20) ["ring","top"] (spF K 2 fs_weighed) :=
 aJ (k:=3) T.x_weighed.f sc_weighed m_weighed (fun cdv A outer s H E hr=>(ah (pm_setC sc_weighed.nd (j:=2) rfl (by walk_at "o") (sc:=(ai s_weighed)) (N:=N_weighed) (Nt:=["ask"]) (Nf:=[]) (fi:=[]) rfl rfl rfl (a9 (ak (ac 0) af (fun _ _=>rfl))) rfl (by decide +kernel) (by decide +kernel) (by decide +kernel) (by decide) rfl (by decide +kernel) (by decide) (fun _ _ _ _=>(ba (by decide) (show ((["ask"]:List Str)++([]:List Str)).Nodup by decide +kernel) rfl (Or.inl rfl))) (fun _ _ _ _=>aZ) (fun _ _ _ _=>(ak (ac 0) af (fun _ _=>rfl))))
  (ah (pm_setC sc_weighed.nd (j:=3) rfl (by walk_at "o") (sc:=(ai s_weighed)) (N:=N_weighed) (Nt:=["room"]) (Nf:=["top"]) (fi:=[1]) rfl rfl rfl (a9 (ak (ac 0) af (fun _ _=>rfl))) rfl (by decide +kernel) (by decide +kernel) (by decide +kernel) (by decide) rfl (by decide +kernel) (by decide) (fun _ _ _ _=>(ba (by decide) (show ((["room"]:List Str)++(["top"]:List Str)).Nodup by decide +kernel) rfl (Or.inl rfl))) (fun _ _ _ _=>aZ) (fun _ _ _ _=>(ax (ok_times T) T.x_times hr (ab (ac 1) (ab (ac 0) ae)))))
  (ah (au (i:=4) sc_weighed.nd rfl (by walk_at "o") (am (ao aO af (ax (ok_common_bottom T) T.x_common_bottom hr (ab (am (ao aY (ac 2) (ac 3))) ae)))))
  (aj (ar (aX (ab (ac 4) (ab (am (ax (ok_in_units T) T.x_in_units hr (ab (ac 2) (ab (ac 4) ae)))) (ab (am (ax (ok_in_units T) T.x_in_units hr (ab (ac 3) (ab (ac 4) ae)))) ae))))))))))
  sat_weighed
theorem sc_is_way:aq N_is_way ["thing"] (ai s_is_way):=⟨rfl,rfl,rfl,by decide +kernel,rfl,by decide +kernel,by decide +kernel⟩
set_option maxHeartbeats 0 in
theorem ok_is_way (T:Tx K mg ad fd):FnOk P w K mg base CX0 1 (ad 21) (fd 21) ["thing"] (spF K 1 fs_is_way) :=
 aJ (k:=0) T.x_is_way.f sc_is_way m_is_way (fun cdv A outer s H E hr=>(aj (ar (c8 (pl_isT kit_str rfl T.z_isinstance rfl T.z_str (by decide +kernel) (ac 0)) (pl_one (bu od_in (ac 0) (aX (ab (pl_G T.g_ON rfl) (ab (pl_G T.g_BACK rfl) ae))) rfl))))))
  sat_is_way
theorem sc_other_way:aq N_other_way ["way"] (ai s_other_way):=⟨rfl,rfl,rfl,by decide +kernel,rfl,by decide +kernel,by decide +kernel⟩
set_option maxHeartbeats 0 in
theorem ok_other_way (T:Tx K mg ad fd):FnOk P w K mg base CX0 1 (ad 22) (fd 22) ["way"] (spF K 1 fs_other_way) :=
 aJ (k:=0) T.x_other_way.f sc_other_way m_other_way (fun cdv A outer s H E hr=>(aj (ar (pl_ifE (pbc (cQ hr.units) (ac 0) (pl_G T.g_ON rfl) (aD _)) (pl_G T.g_BACK rfl) (pl_G T.g_ON rfl)))))
  sat_other_way
theorem fq:aq N_is_over ["ring","k","way","tie"] (ai s_is_over):=⟨rfl,rfl,rfl,by decide +kernel,rfl,by decide +kernel,by decide +kernel⟩
set_option maxHeartbeats 0 in
theorem ok_is_over (T:Tx K mg ad fd):FnOk P w K mg base CX0 1 (ad 23) (fd 23) ["ring","k","way","tie"] (spF K 4 fg) :=
 aJ (k:=0) T.x_is_over.f fq m_is_over (fun cdv A outer s H E hr=>(ah (au (i:=4) fq.nd rfl (by walk_at "o") (am (aC bg rfl T.z_len (by decide +kernel) (ab (ak (ac 0) af (fun _ _=>rfl)) ae))))
  (ah (au (i:=5) fq.nd rfl (by walk_at "o") (ak (ak (ak (ac 0) af (fun _ _=>rfl)) (ac 1) (fun _ _=>rfl)) af (fun _ _=>rfl)))
  (ah (au (i:=6) fq.nd rfl (by walk_at "o") (ak (ak (ak (ac 0) af (fun _ _=>rfl)) (ac 1) (fun _ _=>rfl)) af (fun _ _=>rfl)))
  (ah (au (i:=7) fq.nd rfl (by walk_at "o") (bu od_lt (ao cP (ao od_sub (ac 3) (ac 5)) (ac 4)) (ao cP (ao od_sub (ac 6) (ac 5)) (ac 4)) (aD _)))
  (aj (ar (bu (cQ hr.units) (ac 7) (bu (cQ hr.units) (ac 2) (pl_G T.g_ON rfl) (aD _)) (aD _)))))))))
  sat_is_over
theorem sc_sent_over:aq N_sent_over ["ring","sending","k","tie"] (ai s_sent_over):=⟨rfl,rfl,rfl,by decide +kernel,rfl,by decide +kernel,by decide +kernel⟩
set_option maxHeartbeats 0 in
theorem ok_sent_over (T:Tx K mg ad fd):FnOk P w K mg base CX0 4 (ad 24) (fd 24) ["ring","sending","k","tie"] (spF K 4 fs_sent_over) :=
 aJ (k:=3) T.x_sent_over.f sc_sent_over m_sent_over (fun cdv A outer s H E hr=>(ah (bD (bL (ax (ok_is_over T) T.x_is_over hr (ab (ac 0) (ab (ac 2) (ab (pl_G T.g_ON rfl) (ab (ac 3) ae)))))) (aj (ar (ak (ac 1) (ac 2) (fun _ _=>rfl)))) aH)
  (aj (ar (ax (ok_minus T) T.x_minus hr (ab (ak (ak (ak (ac 0) af (fun _ _=>rfl)) (ac 2) (fun _ _=>rfl)) af (fun _ _=>rfl)) (ab (ak (ac 1) (ac 2) (fun _ _=>rfl)) ae)))))))
  sat_sent_over
theorem sc_load_of:aq N_load_of ["ring","sending","tie"] (ai s_load_of):=⟨rfl,rfl,rfl,by decide +kernel,rfl,by decide +kernel,by decide +kernel⟩
set_option maxHeartbeats 0 in
theorem ok_load_of (T:Tx K mg ad fd):FnOk P w K mg base CX0 5 (ad 25) (fd 25) ["ring","sending","tie"] (spF K 3 fs_load_of) :=
 aJ (k:=4) T.x_load_of.f sc_load_of m_load_of (fun cdv A outer s H E hr=>(aj (ar (ax (ok_sum_of T) T.x_sum_of hr (ab (am (bc (sc:=(ai s_load_of)) (N:=N_load_of) (Nt:=["k"]) (Nf:=["ring","sending","tie"]) (fi:=[0,1,2]) rfl rfl rfl (da rfl T.z_range (aC bg rfl T.z_len (by decide +kernel) (ab (ak (ac 0) af (fun _ _=>rfl)) ae))) rfl (by decide +kernel) (by decide +kernel) (by decide +kernel) (by decide) rfl (by decide +kernel) (by decide) (fun _ _ _ _=>(ba (by decide) (show ((["k"]:List Str)++(["ring","sending","tie"]:List Str)).Nodup by decide +kernel) rfl (Or.inl rfl))) (fun _ _ _ _=>aZ) (fun _ _ _ _=>(ax (ok_sent_over T) T.x_sent_over hr (ab (ac 1) (ab (ac 2) (ab (ac 0) (ab (ac 3) ae)))))))) ae)))))
  sat_load_of
theorem sc_loads_of:aq N_loads_of ["ring","sending"] (ai s_loads_of):=⟨rfl,rfl,rfl,by decide +kernel,rfl,by decide +kernel,by decide +kernel⟩
set_option maxHeartbeats 0 in
theorem ok_loads_of (T:Tx K mg ad fd):FnOk P w K mg base CX0 6 (ad 26) (fd 26) ["ring","sending"] (spF K 2 fs_loads_of) :=
 aJ (k:=5) T.x_loads_of.f sc_loads_of m_loads_of (fun cdv A outer s H E hr=>(aj (ar (bc (sc:=(ai s_loads_of)) (N:=N_loads_of) (Nt:=["tie"]) (Nf:=["ring","sending"]) (fi:=[0,1]) rfl rfl rfl (da rfl T.z_range (aC bg rfl T.z_len (by decide +kernel) (ab (ak (ac 0) af (fun _ _=>rfl)) ae))) rfl (by decide +kernel) (by decide +kernel) (by decide +kernel) (by decide) rfl (by decide +kernel) (by decide) (fun _ _ _ _=>(ba (by decide) (show ((["tie"]:List Str)++(["ring","sending"]:List Str)).Nodup by decide +kernel) rfl (Or.inl rfl))) (fun _ _ _ _=>aZ) (fun _ _ _ _=>(ax (ok_load_of T) T.x_load_of hr (ab (ac 1) (ab (ac 2) (ab (ac 0) ae)))))))))
  sat_loads_of
theorem sc_strains_of:aq N_strains_of ["ring","sending"] (ai dY):=⟨rfl,rfl,rfl,by decide +kernel,rfl,by decide +kernel,by decide +kernel⟩
set_option maxHeartbeats 0 in
theorem ok_strains_of (T:Tx K mg ad fd):FnOk P w K mg base CX0 7 (ad 27) (fd 27) ["ring","sending"] (spF K 2 df) :=
 aJ (k:=6) T.x_strains_of.f sc_strains_of m_strains_of (fun cdv A outer s H E hr=>(aj (ar (bc (sc:=(ai dY)) (N:=N_strains_of) (Nt:=["load","room"]) (Nf:=[]) (fi:=[]) rfl rfl rfl (pil_zip rfl T.z_zip (ax (ok_loads_of T) T.x_loads_of hr (ab (ac 0) (ab (ac 1) ae))) (ak (ac 0) af (fun _ _=>rfl))) rfl (by decide +kernel) (by decide +kernel) (by decide +kernel) (by decide) rfl (by decide +kernel) (by decide) (fun _ _ _ _=>(tc_tup rfl (bU (i:=0) (by decide) (show ((["load","room"]:List Str)++([]:List Str)).Nodup by decide +kernel) rfl (Or.inl rfl) (bU (i:=1) (by decide) (show ((["load","room"]:List Str)++([]:List Str)).Nodup by decide +kernel) rfl (Or.inl rfl) tcs_nil)))) (fun _ _ _ _=>aZ) (fun _ _ _ _=>(ax (ok_over T) T.x_over hr (ab (ac 0) (ab (ac 1) ae))))))))
  sat_strains_of
theorem fr:aq N_top_of ["ring","sending"] (ai s_top_of):=⟨rfl,rfl,rfl,by decide +kernel,rfl,by decide +kernel,by decide +kernel⟩
set_option maxHeartbeats 0 in
theorem ok_top_of (T:Tx K mg ad fd):FnOk P w K mg base CX0 8 (ad 28) (fd 28) ["ring","sending"] (spF K 2 fs_top_of) :=
 aJ (k:=7) T.x_top_of.f fr m_top_of (fun cdv A outer s H E hr=>(ah (au (i:=2) fr.nd rfl (by walk_at "o") (am (ax (ok_strains_of T) T.x_strains_of hr (ab (ac 0) (ab (ac 1) ae)))))
  (ah (au (i:=3) fr.nd rfl (by walk_at "o") af)
  (ah (eV PassesOwn.never rfl (pil_enum rfl T.z_enumerate (ac 2)) (tg_tup rfl (bi (i:=4) fr.nd rfl (by walk_at "o") (bi (i:=5) fr.nd rfl (by walk_at "o") tgs_nil))) (aj (bD (bL (ax (ok_under T) T.x_under hr (ab (ak (ac 2) (ac 3) (fun _ _=>rfl)) (ab (ac 5) ae)))) (aj (au (i:=3) fr.nd rfl (by walk_at "o") (ac 4))) aH)))
  (aj (ar (aX (ab (ak (ac 2) (ac 3) (fun _ _=>rfl)) (ab (ac 3) ae)))))))))
  sat_top_of
theorem sc_are_ways:aq N_are_ways ["ring","thing"] (ai s_are_ways):=⟨rfl,rfl,rfl,by decide +kernel,rfl,by decide +kernel,by decide +kernel⟩
set_option maxHeartbeats 0 in
theorem ok_are_ways (T:Tx K mg ad fd):FnOk P w K mg base CX0 2 (ad 29) (fd 29) ["ring","thing"] (spF K 2 fs_are_ways) :=
 aJ (k:=1) T.x_are_ways.f sc_are_ways m_are_ways (fun cdv A outer s H E hr=>(ah (bD (PBw.pb (pbw_or (pb_not (bL (pl_isT kit_list rfl T.z_isinstance rfl T.z_list (by decide +kernel) (ac 1)))) (pbw_or1 (pbc (od_ne hr.units) (aC bg rfl T.z_len (by decide +kernel) (ab (ac 1) ae)) (aC bg rfl T.z_len (by decide +kernel) (ab (ak (ac 0) af (fun _ _=>rfl)) ae)) (aD _))))) (aj (ar pl_bl)) aH)
  (aj (ar (aC (cd_all rfl) rfl T.z_all (by decide +kernel) (ab (am (bc (sc:=(ai s_are_ways)) (N:=N_are_ways) (Nt:=["way"]) (Nf:=[]) (fi:=[]) rfl rfl rfl (a9 (ac 1)) rfl (by decide +kernel) (by decide +kernel) (by decide +kernel) (by decide) rfl (by decide +kernel) (by decide) (fun _ _ _ _=>(ba (by decide) (show ((["way"]:List Str)++([]:List Str)).Nodup by decide +kernel) rfl (Or.inl rfl))) (fun _ _ _ _=>aZ) (fun _ _ _ _=>(ax (ok_is_way T) T.x_is_way hr (ab (ac 0) ae))))) ae))))))
  sat_are_ways
theorem sc_sent_by:aq N_sent_by ["ring","ways"] (ai s_sent_by):=⟨rfl,rfl,rfl,by decide +kernel,rfl,by decide +kernel,by decide +kernel⟩
set_option maxHeartbeats 0 in
theorem ok_sent_by (T:Tx K mg ad fd):FnOk P w K mg base CX0 1 (ad 30) (fd 30) ["ring","ways"] (spF K 2 dg) :=
 aJ (k:=0) T.x_sent_by.f sc_sent_by m_sent_by (fun cdv A outer s H E hr=>(aj (ar (bc (sc:=(ai s_sent_by)) (N:=N_sent_by) (Nt:=["ask","way"]) (Nf:=[]) (fi:=[]) rfl rfl rfl (pil_zip rfl T.z_zip (ak (ac 0) af (fun _ _=>rfl)) (ac 1)) rfl (by decide +kernel) (by decide +kernel) (by decide +kernel) (by decide) rfl (by decide +kernel) (by decide) (fun _ _ _ _=>(tc_tup rfl (bU (i:=0) (by decide) (show ((["ask","way"]:List Str)++([]:List Str)).Nodup by decide +kernel) rfl (Or.inl rfl) (bU (i:=1) (by decide) (show ((["ask","way"]:List Str)++([]:List Str)).Nodup by decide +kernel) rfl (Or.inl rfl) tcs_nil)))) (fun _ _ _ _=>aZ) (fun _ _ _ _=>(pl_ifE (pbc (cQ hr.units) (ac 1) (pl_G T.g_ON rfl) (aD _)) (ak (ac 0) af (fun _ _=>rfl)) (pl_G T.g_NOUGHT rfl)))))))
  sat_sent_by
theorem sc_top_by:aq N_top_by ["ring","ways"] (ai s_top_by):=⟨rfl,rfl,rfl,by decide +kernel,rfl,by decide +kernel,by decide +kernel⟩
set_option maxHeartbeats 0 in
theorem ok_top_by (T:Tx K mg ad fd):FnOk P w K mg base CX0 9 (ad 31) (fd 31) ["ring","ways"] (spF K 2 fs_top_by) :=
 aJ (k:=8) T.x_top_by.f sc_top_by m_top_by (fun cdv A outer s H E hr=>(aj (ar (ak (ax (ok_top_of T) T.x_top_of hr (ab (ac 0) (ab (am (ax (ok_sent_by T) T.x_sent_by hr (ab (ac 0) (ab (ac 1) ae)))) ae))) af (fun _ _=>rfl)))))
  sat_top_by
theorem sc_are_ways_with_top:aq N_are_ways_with_top ["ring","thing","top"] (ai b7):=⟨rfl,rfl,rfl,by decide +kernel,rfl,by decide +kernel,by decide +kernel⟩
set_option maxHeartbeats 0 in
theorem ok_are_ways_with_top (T:Tx K mg ad fd):FnOk P w K mg base CX0 10 (ad 32) (fd 32) ["ring","thing","top"] (spF K 3 bQ) :=
 aJ (k:=9) T.x_are_ways_with_top.f sc_are_ways_with_top b8 (fun cdv A outer s H E hr=>(aj (ar (c8 (ax (ok_are_ways T) T.x_are_ways hr (ab (ac 0) (ab (ac 1) ae))) (c8 (ax (ok_is_ratio T) T.x_is_ratio hr (ab (ac 2) ae)) (pl_one (bu (cQ hr.units) (ax (ok_top_by T) T.x_top_by hr (ab (ac 0) (ab (ac 1) ae))) (ac 2) (aD _))))))))
  sat_are_ways_with_top
theorem sc_turned_by:aq N_turned_by ["elder","ways"] (ai fH):=⟨rfl,rfl,rfl,by decide +kernel,rfl,by decide +kernel,by decide +kernel⟩
set_option maxHeartbeats 0 in
theorem ok_turned_by (T:Tx K mg ad fd):FnOk P w K mg base CX0 2 (ad 33) (fd 33) ["elder","ways"] (spF K 2 d7) :=
 aJ (k:=1) T.x_turned_by.f sc_turned_by m_turned_by (fun cdv A outer s H E hr=>(ah (au (i:=2) sc_turned_by.nd rfl (by walk_at "o") (am (pl_listZip rfl T.z_list rfl T.z_zip rfl (ab (ac 0) (ab (ac 1) ae)))))
  (aj (ar (bc (sc:=(ai fH)) (N:=N_turned_by) (Nt:=["k","pair"]) (Nf:=[]) (fi:=[]) rfl rfl rfl (pil_enum rfl T.z_enumerate (ac 2)) rfl (by decide +kernel) (by decide +kernel) (by decide +kernel) (by decide) rfl (by decide +kernel) (by decide) (fun _ _ _ _=>(tc_tup rfl (bU (i:=0) (by decide) (show ((["k","pair"]:List Str)++([]:List Str)).Nodup by decide +kernel) rfl (Or.inl rfl) (bU (i:=1) (by decide) (show ((["k","pair"]:List Str)++([]:List Str)).Nodup by decide +kernel) rfl (Or.inl rfl) tcs_nil)))) (fun _ _ _ _=>(pif_one (PBw.pb (pbw_and (pbc od_notN' (ak (ac 1) af (fun _ _=>rfl)) pl_non (aD _)) (pbw_and1 (pbc (cQ hr.units) (ak (ac 1) af (fun _ _=>rfl)) (ax (ok_other_way T) T.x_other_way hr (ab (ak (ac 1) af (fun _ _=>rfl)) ae)) (aD _))))))) (fun _ _ _ _=>(ac 0)))))))
  sat_turned_by
theorem sc_is_too_much:aq N_is_too_much ["wish","load","bound"] (ai fI):=⟨rfl,rfl,rfl,by decide +kernel,rfl,by decide +kernel,by decide +kernel⟩
set_option maxHeartbeats 0 in
theorem eP (T:Tx K mg ad fd):FnOk P w K mg base CX0 1 (ad 34) (fd 34) ["wish","load","bound"] (spF K 3 bR) :=
 aJ (k:=0) T.x_is_too_much.f sc_is_too_much fO (fun cdv A outer s H E hr=>(aj (ar (pl_or (bu od_gt (ac 1) (ac 2) (aD _)) (pl_one (c8 (ak (ac 0) af (fun _ _=>rfl)) (pl_one (bu (cQ hr.units) (ac 1) (ac 2) (aD _)))))))))
  sat_is_too_much
theorem sc_are_too_many:aq N_are_too_many ["wish","ways"] (ai eD):=⟨rfl,rfl,rfl,by decide +kernel,rfl,by decide +kernel,by decide +kernel⟩
set_option maxHeartbeats 0 in
theorem dO (T:Tx K mg ad fd):FnOk P w K mg base CX0 3 (ad 35) (fd 35) ["wish","ways"] (spF K 2 bG) :=
 aJ (k:=2) T.x_are_too_many.f sc_are_too_many eG (fun cdv A outer s H E hr=>(aj (ar (bu od_gt (aC bg rfl T.z_len (by decide +kernel) (ab (am (ax (ok_turned_by T) T.x_turned_by hr (ab (ak (ac 0) af (fun _ _=>rfl)) (ab (ac 1) ae)))) ae)) (ak (ac 0) af (fun _ _=>rfl)) (aD _)))))
  sat_are_too_many
theorem cM:aq N_broken_wish ["ring","wish","ways"] (ai fJ):=⟨rfl,rfl,rfl,by decide +kernel,rfl,by decide +kernel,by decide +kernel⟩
set_option maxHeartbeats 0 in
theorem ok_broken_wish (T:Tx K mg ad fd):FnOk P w K mg base CX0 8 (ad 36) (fd 36) ["ring","wish","ways"] (spF K 3 cL) :=
 aJ (k:=7) T.x_broken_wish.f cM fP (fun cdv A outer s H E hr=>by exact (@ah _ _ _ _ _ (@au _ _ _ 3 _ _ _ cM.nd rfl (by walk_at "o") (ak (ac 1) af (fun _ _=>rfl)) (by kernel_rfl) (by first | exact .inl rfl | exact .inr rfl)) (@ah _ _ _ _ _ (eV PassesOwn.never rfl (pil_enum rfl T.z_enumerate (ax (ok_strains_of T) T.x_strains_of hr (@ab _ _ _ _ _ _ (ac 0) (@ab _ _ _ _ _ _ (@am _ _ _ (ax (ok_sent_by T) T.x_sent_by hr (@ab _ _ _ _ _ _ (ac 0) (@ab _ _ _ _ _ _ (ac 2) ae (by kernel_rfl)) (by kernel_rfl)))) ae (by kernel_rfl)) (by kernel_rfl)))) (tg_tup rfl (bi (i:=4) cM.nd rfl (by walk_at "o") (bi (i:=5) cM.nd rfl (by walk_at "o") tgs_nil))) (aj (bD (bL (ax (eP T) T.x_is_too_much hr (@ab _ _ _ _ _ _ (ac 1) (@ab _ _ _ _ _ _ (@am _ _ _ (@ao _ _ _ _ _ _ _ _ aO (ak (ac 5) af (fun _ _=>rfl)) (ak (ac 3) af (fun _ _=>rfl)))) (@ab _ _ _ _ _ _ (@am _ _ _ (@ao _ _ _ _ _ _ _ _ aO (ak (ac 3) af (fun _ _=>rfl)) (ak (ac 5) af (fun _ _=>rfl)))) ae (by kernel_rfl)) (by kernel_rfl)) (by kernel_rfl)))) (aj (ar (@aX _ _ _ _ _ _ (@ab _ _ _ _ _ _ cO (@ab _ _ _ _ _ _ (ac 4) ae (by kernel_rfl)) (by kernel_rfl))))) aH))) (@ah _ _ _ _ _ (bD (bL (ax (dO T) T.x_are_too_many hr (@ab _ _ _ _ _ _ (ac 1) (@ab _ _ _ _ _ _ (ac 2) ae (by kernel_rfl)) (by kernel_rfl)))) (aj (ar (@aX _ _ _ _ _ _ (@ab _ _ _ _ _ _ cO (@ab _ _ _ _ _ _ (@am _ _ _ (aC bg rfl T.z_len (by decide +kernel) (@ab _ _ _ _ _ _ (@am _ _ _ (ax (ok_turned_by T) T.x_turned_by hr (@ab _ _ _ _ _ _ (ak (ac 1) af (fun _ _=>rfl)) (@ab _ _ _ _ _ _ (ac 2) ae (by kernel_rfl)) (by kernel_rfl)))) ae (by kernel_rfl)))) ae (by kernel_rfl)) (by kernel_rfl))))) aH) (aj (ar pl_non))))))
  sat_broken_wish
theorem sc_is_split:aq N_is_split ["thing"] (ai s_is_split):=⟨rfl,rfl,rfl,by decide +kernel,rfl,by decide +kernel,by decide +kernel⟩
set_option maxHeartbeats 0 in
theorem ok_is_split (T:Tx K mg ad fd):FnOk P w K mg base CX0 2 (ad 37) (fd 37) ["thing"] (spF K 1 fQ) :=
 aJ (k:=1) T.x_is_split.f sc_is_split m_is_split (fun cdv A outer s H E hr=>(aj (ar (ax (ok_is_told_as T) T.x_is_told_as hr (ab (ac 0) (ab (pl_G T.g_SPLIT rfl) (ab af ae)))))))
  sat_is_split
theorem sc_times_over:aq N_times_over ["ring","k","way","cut"] (ai dZ):=⟨rfl,rfl,rfl,by decide +kernel,rfl,by decide +kernel,by decide +kernel⟩
set_option maxHeartbeats 0 in
theorem ok_times_over (T:Tx K mg ad fd):FnOk P w K mg base CX0 3 (ad 38) (fd 38) ["ring","k","way","cut"] (spF K 4 fR) :=
 aJ (k:=2) T.x_times_over.f sc_times_over m_times_over (fun cdv A outer s H E hr=>(ah (bD (pbc od_isN' (ac 2) pl_non (aD _)) (aj (ar (pl_ifE (bL (ax (ok_parts_places T) T.x_parts_places hr (ab (ac 3) (ab (ak (ak (ak (ac 0) af (fun _ _=>rfl)) (ac 1) (fun _ _=>rfl)) af (fun _ _=>rfl)) (ab (ak (ak (ak (ac 0) af (fun _ _=>rfl)) (ac 1) (fun _ _=>rfl)) af (fun _ _=>rfl)) ae))))) af af))) aH)
  (aj (ar (aC bg rfl T.z_len (by decide +kernel) (ab (am (bc (sc:=(ai dZ)) (N:=N_times_over) (Nt:=["tie"]) (Nf:=["ring","k","way"]) (fi:=[0,1,2]) rfl rfl rfl (a9 (ac 3)) rfl (by decide +kernel) (by decide +kernel) (by decide +kernel) (by decide) rfl (by decide +kernel) (by decide) (fun _ _ _ _=>(ba (by decide) (show ((["tie"]:List Str)++(["ring","k","way"]:List Str)).Nodup by decide +kernel) rfl (Or.inl rfl))) (fun _ _ _ _=>(pif_one (bL (ax (ok_is_over T) T.x_is_over hr (ab (ac 1) (ab (ac 2) (ab (ac 3) (ab (ac 0) ae)))))))) (fun _ _ _ _=>(ac 0)))) ae))))))
  sat_times_over
theorem eQ:aq N_is_too_full ["ring","wish","scale","fixed","cut"] (ai de):=⟨rfl,rfl,rfl,by decide +kernel,rfl,by decide +kernel,by decide +kernel⟩
set_option maxHeartbeats 0 in
theorem ok_is_too_full (T:Tx K mg ad fd):FnOk P w K mg base CX0 4 (ad 39) (fd 39) ["ring","wish","scale","fixed","cut"] (spF K 5 eH) :=
 aJ (k:=3) T.x_is_too_full.f eQ fS (fun cdv A outer s H E hr=>(ah (au (i:=5) eQ.nd rfl (by walk_at "o") (ak (ac 2) af (fun _ _=>rfl)))
  (ah (au (i:=6) eQ.nd rfl (by walk_at "o") (am (aC (cd_sum rfl) rfl T.z_sum (by decide +kernel) (ab (am (bc (sc:=(ai de)) (N:=N_is_too_full) (Nt:=["k","size"]) (Nf:=["ring","fixed","cut"]) (fi:=[0,3,4]) rfl rfl rfl (pil_enum rfl T.z_enumerate (ak (ac 2) af (fun _ _=>rfl))) rfl (by decide +kernel) (by decide +kernel) (by decide +kernel) (by decide) rfl (by decide +kernel) (by decide) (fun _ _ _ _=>(tc_tup rfl (bU (i:=0) (by decide) (show ((["k","size"]:List Str)++(["ring","fixed","cut"]:List Str)).Nodup by decide +kernel) rfl (Or.inl rfl) (bU (i:=1) (by decide) (show ((["k","size"]:List Str)++(["ring","fixed","cut"]:List Str)).Nodup by decide +kernel) rfl (Or.inl rfl) tcs_nil)))) (fun _ _ _ _=>aZ) (fun _ _ _ _=>(ao aO (ac 1) (ax (ok_times_over T) T.x_times_over hr (ab (ac 2) (ab (ac 0) (ab (ak (ac 3) (ac 0) (fun _ _=>rfl)) (ab (ac 4) ae))))))))) ae))))
  (aj (ar (ax (eP T) T.x_is_too_much hr (ab (ac 1) (ab (ac 6) (ab (am (ao aY (ak (ac 5) (ak (ac 4) af (fun _ _=>rfl)) (fun _ _=>rfl)) (ak (ac 5) (ak (ac 4) af (fun _ _=>rfl)) (fun _ _=>rfl)))) ae)))))))))
  sat_is_too_full
theorem sc_can_stand:aq N_can_stand ["ring","wish","scale","fixed","thing"] (ai s_can_stand):=⟨rfl,rfl,rfl,by decide +kernel,rfl,by decide +kernel,by decide +kernel⟩
set_option maxHeartbeats 0 in
theorem ok_can_stand (T:Tx K mg ad fd):FnOk P w K mg base CX0 5 (ad 40) (fd 40) ["ring","wish","scale","fixed","thing"] (spF K 5 fs_can_stand) :=
 aJ (k:=4) T.x_can_stand.f sc_can_stand m_can_stand (fun cdv A outer s H E hr=>by exact (@ah _ _ _ _ _ (bD (bL (ax (ok_is_told_as T) T.x_is_told_as hr (@ab _ _ _ _ _ _ (ac 4) (@ab _ _ _ _ _ _ (pl_G T.g_TURNED rfl) (@ab _ _ _ _ _ _ af ae (by kernel_rfl)) (by kernel_rfl)) (by kernel_rfl)))) (aj (ar (ax (dO T) T.x_are_too_many hr (@ab _ _ _ _ _ _ (ac 1) (@ab _ _ _ _ _ _ (ac 3) ae (by kernel_rfl)) (by kernel_rfl))))) aH) (@ah _ _ _ _ _ (bD (bL (ax (ok_is_told_as T) T.x_is_told_as hr (@ab _ _ _ _ _ _ (ac 4) (@ab _ _ _ _ _ _ (pl_G T.g_CUT rfl) (@ab _ _ _ _ _ _ af ae (by kernel_rfl)) (by kernel_rfl)) (by kernel_rfl)))) (aj (ar (c8 (ax (ok_is_cut T) T.x_is_cut hr (@ab _ _ _ _ _ _ (ac 0) (@ab _ _ _ _ _ _ (@am _ _ _ (pl_slice2 (ac 4) af trivial)) ae (by kernel_rfl)) (by kernel_rfl))) (pl_one (ax (ok_is_too_full T) T.x_is_too_full hr (@ab _ _ _ _ _ _ (ac 0) (@ab _ _ _ _ _ _ (ac 1) (@ab _ _ _ _ _ _ (ac 2) (@ab _ _ _ _ _ _ (ac 3) (@ab _ _ _ _ _ _ (@am _ _ _ (pl_slice2 (ac 4) af trivial)) ae (by kernel_rfl)) (by kernel_rfl)) (by kernel_rfl)) (by kernel_rfl)) (by kernel_rfl))))))) aH) (aj (ar (c8 (ax (ok_is_split T) T.x_is_split hr (@ab _ _ _ _ _ _ (ac 4) ae (by kernel_rfl))) (c8 (ax (ok_is_number_below T) T.x_is_number_below hr (@ab _ _ _ _ _ _ (ak (ac 4) af (fun _ _=>rfl)) (@ab _ _ _ _ _ _ (@am _ _ _ (aC bg rfl T.z_len (by decide +kernel) (@ab _ _ _ _ _ _ (ac 3) ae (by kernel_rfl)))) ae (by kernel_rfl)) (by kernel_rfl))) (pl_one (bu od_isN' (ak (ac 3) (ak (ac 4) af (fun _ _=>rfl)) (fun _ _=>rfl)) pl_non (aD _))))))))))
  sat_can_stand
theorem sc_branch_of:aq N_branch_of ["here","way"] (ai s_branch_of):=⟨rfl,rfl,rfl,by decide +kernel,rfl,by decide +kernel,by decide +kernel⟩
set_option maxHeartbeats 0 in
theorem ok_branch_of (T:Tx K mg ad fd):FnOk P w K mg base CX0 1 (ad 41) (fd 41) ["here","way"] (spF K 2 d8) :=
 aJ (k:=0) T.x_branch_of.f sc_branch_of m_branch_of (fun cdv A outer s H E hr=>(ah (au (i:=2) sc_branch_of.nd rfl (by walk_at "o") (ak (ac 0) af (fun _ _=>rfl)))
  (ah (au (i:=3) sc_branch_of.nd rfl (by walk_at "o") (pl_callTD cd_list rfl T.z_list (by decide +kernel) (ab (ak (ac 0) af (fun _ _=>rfl)) ae)))
  (ah (pm_setV 3 (ak (ac 2) af (fun _ _=>rfl)) (ac 1))
  (aj (ar (aX (ab (pl_ifE (pbc (cQ hr.units) (ac 1) (pl_G T.g_ON rfl) (aD _)) (ak (ac 2) af (fun _ _=>rfl)) (ak (ac 2) af (fun _ _=>rfl))) (ab (ac 3) (ab (am (ao aY (ak (ac 0) af (fun _ _=>rfl)) (bv (ab (ac 1) ae)))) ae))))))))))
  sat_branch_of
theorem be:aq N_look_at_tree ["ring","wish","thing"] (ai cK):=⟨rfl,rfl,rfl,by decide +kernel,rfl,by decide +kernel,by decide +kernel⟩
set_option maxHeartbeats 0 in
theorem ok_look_at_tree (T:Tx K mg ad fd):FnOk P w K mg base CX0 6 (ad 42) (fd 42) ["ring","wish","thing"] (spF K 3 cm) :=
 aJ (k:=5) T.x_look_at_tree.f be eI (fun cdv A outer s H E hr=>by exact (@ah _ _ _ _ _ (@au _ _ _ 3 _ _ _ be.nd rfl (by walk_at "o") (@am _ _ _ (ax (ok_weighed T) T.x_weighed hr (@ab _ _ _ _ _ _ (ac 0) (@ab _ _ _ _ _ _ (ak (ac 1) af (fun _ _=>rfl)) ae (by kernel_rfl)) (by kernel_rfl)))) (by kernel_rfl) (by first | exact .inl rfl | exact .inr rfl)) (@ah _ _ _ _ _ (@au _ _ _ 4 _ _ _ be.nd rfl (by walk_at "o") (@bv _ _ _ _ _ (@ab _ _ _ _ _ _ (@aX _ _ _ _ _ _ (@ab _ _ _ _ _ _ (ac 2) (@ab _ _ _ _ _ _ (@am _ _ _ (bc (sc:=(ai cK)) (N:=N_look_at_tree) (Nt:=[ "ask" ]) (Nf:=[]) (fi:=[]) rfl rfl rfl (a9 (ak (ac 0) af (fun _ _=>rfl))) rfl (by decide +kernel) (by decide +kernel) (by decide +kernel) (by decide) rfl (by decide +kernel) (by decide) (fun _ _ _ _=>(ba (by decide) (show (([ "ask" ]:List Str)++([]:List Str)).Nodup by decide +kernel) rfl (Or.inl rfl))) (fun _ _ _ _=>aZ) (fun _ _ _ _=>pl_non))) (@ab _ _ _ _ _ _ (@am _ _ _ (@bv _ _ _ _ _ ae)) ae (by kernel_rfl)) (by kernel_rfl)) (by kernel_rfl))) ae (by kernel_rfl))) (by kernel_rfl) (by first | exact .inl rfl | exact .inr rfl)) (@ah _ _ _ _ _ (@au _ _ _ 5 _ _ _ be.nd rfl (by walk_at "o") af (by kernel_rfl) (by first | exact .inl rfl | exact .inr rfl)) (aj (pm_while PassesOwn.never (pb_own 4) (@ah _ _ _ _ _ (@au _ _ _ 6 _ _ _ be.nd rfl (by walk_at "o") (@am _ _ _ (pl_pop 4)) (by kernel_rfl) (by first | exact .inl rfl | exact .inr rfl)) (@ah _ _ _ _ _ (pm_aug ip_add (i:=5) be.nd rfl (by walk_at "o") af) (@ah _ _ _ _ _ (bD (PBw.pb (pbw_or (pbc od_gt (ac 5) (pl_G T.g_MOST_WALKED rfl) (aD _)) (pbw_or1 (pb_not (bL (ax (ok_can_stand T) T.x_can_stand hr (@ab _ _ _ _ _ _ (ac 0) (@ab _ _ _ _ _ _ (ac 1) (@ab _ _ _ _ _ _ (ac 3) (@ab _ _ _ _ _ _ (ak (ac 6) af (fun _ _=>rfl)) (@ab _ _ _ _ _ _ (ak (ac 6) af (fun _ _=>rfl)) ae (by kernel_rfl)) (by kernel_rfl)) (by kernel_rfl)) (by kernel_rfl)) (by kernel_rfl)))))))) (aj pm_never) aH) (aj (bD (bL (ax (ok_is_split T) T.x_is_split hr (@ab _ _ _ _ _ _ (ak (ac 6) af (fun _ _=>rfl)) ae (by kernel_rfl)))) (@ah _ _ _ _ _ (fw (eY 4 (ax (ok_branch_of T) T.x_branch_of hr (@ab _ _ _ _ _ _ (ac 6) (@ab _ _ _ _ _ _ (pl_G T.g_BACK rfl) ae (by kernel_rfl)) (by kernel_rfl))))) (aj (fw (eY 4 (ax (ok_branch_of T) T.x_branch_of hr (@ab _ _ _ _ _ _ (ac 6) (@ab _ _ _ _ _ _ (pl_G T.g_ON rfl) ae (by kernel_rfl)) (by kernel_rfl))))))) aH)))))))))))
  sat_look_at_tree
theorem sc_is_tree:aq N_is_tree ["ring","wish","thing"] (ai s_is_tree):=⟨rfl,rfl,rfl,by decide +kernel,rfl,by decide +kernel,by decide +kernel⟩
set_option maxHeartbeats 0 in
theorem ok_is_tree (T:Tx K mg ad fd):FnOk P w K mg base CX0 7 (ad 43) (fd 43) ["ring","wish","thing"] (spF K 3 fs_is_tree) :=
 aJ (k:=6) T.x_is_tree.f sc_is_tree m_is_tree (fun cdv A outer s H E hr=>(ah (pm_try (fun _ _ z=>z) (aj (fw (ax (ok_look_at_tree T) T.x_look_at_tree hr (ab (ac 0) (ab (ac 1) (ab (ac 2) ae)))))))
  (aj (ar pl_bl))))
  sat_is_tree
theorem cH:aq N_reason_against ["wish","bounds","fixed","loads"] (ai cY):=⟨rfl,rfl,rfl,by decide +kernel,rfl,by decide +kernel,by decide +kernel⟩
set_option maxHeartbeats 0 in
theorem ok_reason_against (T:Tx K mg ad fd):FnOk P w K mg base CX0 4 (ad 44) (fd 44) ["wish","bounds","fixed","loads"] (spF K 4 cF) :=
 aJ (k:=3) T.x_reason_against.f cH c6 (fun cdv A outer s H E hr=>(ah (bD (bL (ax (dO T) T.x_are_too_many hr (ab (ac 0) (ab (ac 2) ae)))) (aj (ar (aX (ab (pl_G T.g_TURNED rfl) ae)))) aH)
  (ah (eV PassesOwn.never rfl (a9 (ac 1)) (tg_tup rfl (bi (i:=4) cH.nd rfl (by walk_at "o") (bi (i:=5) cH.nd rfl (by walk_at "o") tgs_nil))) (aj (bD (bL (ax (eP T) T.x_is_too_much hr (ab (ac 0) (ab (am (ao aY (ak (ac 3) (ak (ac 4) af (fun _ _=>rfl)) (fun _ _=>rfl)) (ak (ac 3) (ak (ac 4) af (fun _ _=>rfl)) (fun _ _=>rfl)))) (ab (ac 5) ae))))) (aj (ar (aX (ab (pl_G T.g_CUT rfl) (ab (ak (ac 4) af (fun _ _=>rfl)) (ab (ak (ac 4) af (fun _ _=>rfl)) ae)))))) aH)))
  (aj (ar pl_non)))))
  sat_reason_against
theorem b9:aq N_searched ["ring","wish","sizes","bounds","fixed","loads"] (ai s_searched):=⟨rfl,rfl,rfl,by decide +kernel,rfl,by decide +kernel,by decide +kernel⟩
set_option maxHeartbeats 0 in
theorem okr_searched (T:Tx K mg ad fd):∀ n,FnOk P w K mg base CX0 (5+n) (ad 45) (fd 45) ["ring","wish","sizes","bounds","fixed","loads"] (spF K 6 (bH n))
 | 0=>fnOk_no no_searched
 | n+1=>aJ (k:=5+n) T.x_searched.f b9 (m_searched (bH n)) (fun cdv A outer s H E hr=>by exact (@ah _ _ _ _ _ (@au _ _ _ 6 _ _ _ b9.nd rfl (by walk_at "o") (@am _ _ _ (aC bg rfl T.z_len (by decide +kernel) (@ab _ _ _ _ _ _ (ac 4) ae (by kernel_rfl)))) (by kernel_rfl) (by first | exact .inl rfl | exact .inr rfl)) (@ah _ _ _ _ _ (@au _ _ _ 7 _ _ _ b9.nd rfl (by walk_at "o") (@am _ _ _ (ax (ok_reason_against T) T.x_reason_against hr (@ab _ _ _ _ _ _ (ac 1) (@ab _ _ _ _ _ _ (ak (ac 3) (@ao _ _ _ _ _ _ _ _ od_sub (aC bg rfl T.z_len (by decide +kernel) (@ab _ _ _ _ _ _ (ac 2) ae (by kernel_rfl))) (ac 6)) (fun _ _=>rfl)) (@ab _ _ _ _ _ _ (ac 4) (@ab _ _ _ _ _ _ (ac 5) ae (by kernel_rfl)) (by kernel_rfl)) (by kernel_rfl)) (by kernel_rfl)) (hk:=by omega))) (by kernel_rfl) (by first | exact .inl rfl | exact .inr rfl)) (@ah _ _ _ _ _ (bD (pbc od_notN' (ac 7) pl_non (aD _)) (aj (ar (@aX _ _ _ _ _ _ (@ab _ _ _ _ _ _ cO (@ab _ _ _ _ _ _ (ac 7) ae (by kernel_rfl)) (by kernel_rfl))))) aH) (@ah _ _ _ _ _ (bD (pbc (cQ hr.units) (ac 6) (aC bg rfl T.z_len (by decide +kernel) (@ab _ _ _ _ _ _ (ac 2) ae (by kernel_rfl))) (aD _)) (aj (ar (@aX _ _ _ _ _ _ (@ab _ _ _ _ _ _ cO (@ab _ _ _ _ _ _ (ac 4) ae (by kernel_rfl)) (by kernel_rfl))))) aH) (@ah _ _ _ _ _ (@au _ _ _ 8 _ _ _ b9.nd rfl (by walk_at "o") (@bv _ _ _ _ _ ae) (by kernel_rfl) (by first | exact .inl rfl | exact .inr rfl)) (@ah _ _ _ _ _ (eV PassesOwn.never rfl (a9 (@aX _ _ _ _ _ _ (@ab _ _ _ _ _ _ (pl_G T.g_ON rfl) (@ab _ _ _ _ _ _ (pl_G T.g_BACK rfl) ae (by kernel_rfl)) (by kernel_rfl)))) (fz (i:=9) b9.nd rfl (by walk_at "o")) (@ah _ _ _ _ _ (pm_setC b9.nd (j:=10) rfl (by walk_at "o") (sc:=(ai s_searched)) (N:=N_searched) (Nt:=[ "tie" ,"load" ]) (Nf:=[ "ring" ,"k" ,"way" ,"sizes" ]) (fi:=[0,6,9,2]) rfl rfl rfl (pil_enum rfl T.z_enumerate (ac 5)) rfl (by decide +kernel) (by decide +kernel) (by decide +kernel) (by decide) rfl (by decide +kernel) (by decide) (fun _ _ _ _=>(tc_tup rfl (bU (i:=0) (by decide) (show (([ "tie" ,"load" ]:List Str)++([ "ring" ,"k" ,"way" ,"sizes" ]:List Str)).Nodup by decide +kernel) rfl (Or.inl rfl) (bU (i:=1) (by decide) (show (([ "tie" ,"load" ]:List Str)++([ "ring" ,"k" ,"way" ,"sizes" ]:List Str)).Nodup by decide +kernel) rfl (Or.inl rfl) tcs_nil)))) (fun _ _ _ _=>aZ) (fun _ _ _ _=>(@ao _ _ _ _ _ _ _ _ aY (ac 1) (pl_ifE (bL (ax (ok_is_over T) T.x_is_over hr (@ab _ _ _ _ _ _ (ac 2) (@ab _ _ _ _ _ _ (ac 3) (@ab _ _ _ _ _ _ (ac 4) (@ab _ _ _ _ _ _ (ac 0) ae (by kernel_rfl)) (by kernel_rfl)) (by kernel_rfl)) (by kernel_rfl)) (hk:=by omega))) (ak (ac 5) (ac 3) (fun _ _=>rfl)) af)))) (@ah _ _ _ _ _ (@au _ _ _ 11 _ _ _ b9.nd rfl (by walk_at "o") (ax (okr_searched T n) T.x_searched hr (@ab _ _ _ _ _ _ (ac 0) (@ab _ _ _ _ _ _ (ac 1) (@ab _ _ _ _ _ _ (ac 2) (@ab _ _ _ _ _ _ (ac 3) (@ab _ _ _ _ _ _ (@am _ _ _ (@ao _ _ _ _ _ _ _ _ aY (ac 4) (@bv _ _ _ _ _ (@ab _ _ _ _ _ _ (ac 9) ae (by kernel_rfl))))) (@ab _ _ _ _ _ _ (ac 10) ae (by kernel_rfl)) (by kernel_rfl)) (by kernel_rfl)) (by kernel_rfl)) (by kernel_rfl)) (by kernel_rfl)) (hk:=by omega)) (by kernel_rfl) (by first | exact .inl rfl | exact .inr rfl)) (@ah _ _ _ _ _ (bD (pbc (cQ hr.units) (ak (ac 11) af (fun _ _=>rfl)) cO (aD _)) (aj (ar (pl_move 11))) aH) (aj (fw (eY 8 (ak (ac 11) af (fun _ _=>rfl))))))))) (aj (ar (@aX _ _ _ _ _ _ (@ab _ _ _ _ _ _ cO (@ab _ _ _ _ _ _ (@aX _ _ _ _ _ _ (@ab _ _ _ _ _ _ (pl_G T.g_SPLIT rfl) (@ab _ _ _ _ _ _ (ac 6) (@ab _ _ _ _ _ _ (pl_own (pl_ixV 8 af (fun _ _=>rfl)) (ak (ac 8) af (fun _ _=>rfl))) (@ab _ _ _ _ _ _ (pl_own (pl_ixV 8 af (fun _ _=>rfl)) (ak (ac 8) af (fun _ _=>rfl))) ae (by kernel_rfl)) (by kernel_rfl)) (by kernel_rfl)) (by kernel_rfl))) ae (by kernel_rfl)) (by kernel_rfl))))))))))))
  (sat_searched n)
theorem ok_searched (T:Tx K mg ad fd):FnOk P w K mg base CX0 14 (ad 45) (fd 45) ["ring","wish","sizes","bounds","fixed","loads"] (spF K 6 fs_searched):=okr_searched T 9
theorem cS:aq N_bounds_of ["ring","scale"] (ai dC):=⟨rfl,rfl,rfl,by decide +kernel,rfl,by decide +kernel,by decide +kernel⟩
set_option maxHeartbeats 0 in
theorem ok_bounds_of (T:Tx K mg ad fd):FnOk P w K mg base CX0 3 (ad 46) (fd 46) ["ring","scale"] (spF K 2 fs_bounds_of) :=
 aJ (k:=2) T.x_bounds_of.f cS m_bounds_of (fun cdv A outer s H E hr=>(ah (au (i:=2) cS.nd rfl (by walk_at "o") (ak (ac 1) af (fun _ _=>rfl)))
  (ah (au (i:=3) cS.nd rfl (by walk_at "o") (bv (ab (am (bc (sc:=(ai dC)) (N:=N_bounds_of) (Nt:=["cut"]) (Nf:=["most"]) (fi:=[2]) rfl rfl rfl (a9 (ax (ok_all_cuts T) T.x_all_cuts hr (ab (ac 0) ae))) rfl (by decide +kernel) (by decide +kernel) (by decide +kernel) (by decide) rfl (by decide +kernel) (by decide) (fun _ _ _ _=>(ba (by decide) (show ((["cut"]:List Str)++(["most"]:List Str)).Nodup by decide +kernel) rfl (Or.inl rfl))) (fun _ _ _ _=>aZ) (fun _ _ _ _=>(aX (ab (ac 0) (ab (am (ao aY (ak (ac 1) (ak (ac 0) af (fun _ _=>rfl)) (fun _ _=>rfl)) (ak (ac 1) (ak (ac 0) af (fun _ _=>rfl)) (fun _ _=>rfl)))) ae)))))) ae)))
  (ah (eV PassesOwn.never rfl (pil_rev rfl T.z_reversed (pl_listZip rfl T.z_list rfl T.z_zip rfl (ab (ak (ac 0) af (fun _ _=>rfl)) (ab (ak (ac 1) af (fun _ _=>rfl)) ae)))) (tg_tup rfl (bi (i:=4) cS.nd rfl (by walk_at "o") (bi (i:=5) cS.nd rfl (by walk_at "o") tgs_nil))) (aj (fw (eY 3 (bc (sc:=(ai dC)) (N:=N_bounds_of) (Nt:=["cut","bound"]) (Nf:=["ask","size"]) (fi:=[4,5]) rfl rfl rfl (a9 (pl_own (pl_ixV 3 (pl_neg af) (fun _ _=>rfl)) (ak (ac 3) (pl_neg af) (fun _ _=>rfl)))) rfl (by decide +kernel) (by decide +kernel) (by decide +kernel) (by decide) rfl (by decide +kernel) (by decide) (fun _ _ _ _=>(tc_tup rfl (bU (i:=0) (by decide) (show ((["cut","bound"]:List Str)++(["ask","size"]:List Str)).Nodup by decide +kernel) rfl (Or.inl rfl) (bU (i:=1) (by decide) (show ((["cut","bound"]:List Str)++(["ask","size"]:List Str)).Nodup by decide +kernel) rfl (Or.inl rfl) tcs_nil)))) (fun _ _ _ _=>aZ) (fun _ _ _ _=>(aX (ab (ac 0) (ab (ao od_sub (ac 1) (pl_ifE (bL (ax (ok_parts_places T) T.x_parts_places hr (ab (ac 0) (ab (ak (ac 2) af (fun _ _=>rfl)) (ab (ak (ac 2) af (fun _ _=>rfl)) ae))))) (ac 3) af)) ae)))))))))
  (aj (ar (pl_move 3)))))))
  sat_bounds_of
theorem sc_ways_for:aq N_ways_for ["ring","wish"] (ai s_ways_for):=⟨rfl,rfl,rfl,by decide +kernel,rfl,by decide +kernel,by decide +kernel⟩
set_option maxHeartbeats 0 in
theorem ok_ways_for (T:Tx K mg ad fd):FnOk P w K mg base CX0 15 (ad 47) (fd 47) ["ring","wish"] (spF K 2 dH) :=
 aJ (k:=14) T.x_ways_for.f sc_ways_for m_ways_for (fun cdv A outer s H E hr=>(ah (bD (pbc od_gt (aC bg rfl T.z_len (by decide +kernel) (ab (ak (ac 0) af (fun _ _=>rfl)) ae)) (pl_G T.g_MOST_SEARCHED rfl) (aD _)) (aj pm_never) aH)
  (ah (au (i:=2) sc_ways_for.nd rfl (by walk_at "o") (am (ax (ok_weighed T) T.x_weighed hr (ab (ac 0) (ab (ak (ac 1) af (fun _ _=>rfl)) ae)))))
  (aj (ar (ax (ok_searched T) T.x_searched hr (ab (ac 0) (ab (ac 1) (ab (ak (ac 2) af (fun _ _=>rfl)) (ab (am (ax (ok_bounds_of T) T.x_bounds_of hr (ab (ac 0) (ab (ac 2) ae)))) (ab (am (bv ae)) (ab (am (bc (sc:=(ai s_ways_for)) (N:=N_ways_for) (Nt:=["room"]) (Nf:=[]) (fi:=[]) rfl rfl rfl (a9 (ak (ac 0) af (fun _ _=>rfl))) rfl (by decide +kernel) (by decide +kernel) (by decide +kernel) (by decide) rfl (by decide +kernel) (by decide) (fun _ _ _ _=>(ba (by decide) (show ((["room"]:List Str)++([]:List Str)).Nodup by decide +kernel) rfl (Or.inl rfl))) (fun _ _ _ _=>aZ) (fun _ _ _ _=>af))) ae))))))))))))
  sat_ways_for
theorem sc_wish_for_less:aq N_wish_for_less ["ring","top"] (ai cg):=⟨rfl,rfl,rfl,by decide +kernel,rfl,by decide +kernel,by decide +kernel⟩
set_option maxHeartbeats 0 in
theorem ok_wish_for_less (T:Tx K mg ad fd):FnOk P w K mg base CX0 1 (ad 48) (fd 48) ["ring","top"] (spF K 2 bW) :=
 aJ (k:=0) T.x_wish_for_less.f sc_wish_for_less dJ (fun cdv A outer s H E hr=>(aj (ar (aX (ab (ac 1) (ab pl_bl (ab (am (bc (sc:=(ai cg)) (N:=N_wish_for_less) (Nt:=["ask"]) (Nf:=[]) (fi:=[]) rfl rfl rfl (a9 (ak (ac 0) af (fun _ _=>rfl))) rfl (by decide +kernel) (by decide +kernel) (by decide +kernel) (by decide) rfl (by decide +kernel) (by decide) (fun _ _ _ _=>(ba (by decide) (show ((["ask"]:List Str)++([]:List Str)).Nodup by decide +kernel) rfl (Or.inl rfl))) (fun _ _ _ _=>aZ) (fun _ _ _ _=>pl_non))) (ab af ae))))))))
  sat_wish_for_less
theorem cT:aq N_best_ways ["ring"] (ai fK):=⟨rfl,rfl,rfl,by decide +kernel,rfl,by decide +kernel,by decide +kernel⟩
set_option maxHeartbeats 0 in
theorem ok_best_ways (T:Tx K mg ad fd):FnOk P w K mg base CX0 16 (ad 49) (fd 49) ["ring"] (spF K 1 fs_best_ways) :=
 aJ (k:=15) T.x_best_ways.f cT m_best_ways (fun cdv A outer s H E hr=>(ah (pm_setC cT.nd (j:=1) rfl (by walk_at "o") (sc:=(ai fK)) (N:=N_best_ways) (Nt:=["ask"]) (Nf:=[]) (fi:=[]) rfl rfl rfl (a9 (ak (ac 0) af (fun _ _=>rfl))) rfl (by decide +kernel) (by decide +kernel) (by decide +kernel) (by decide) rfl (by decide +kernel) (by decide) (fun _ _ _ _=>(ba (by decide) (show ((["ask"]:List Str)++([]:List Str)).Nodup by decide +kernel) rfl (Or.inl rfl))) (fun _ _ _ _=>aZ) (fun _ _ _ _=>(pl_G T.g_ON rfl)))
  (aj (pm_while PassesOwn.never (bL pl_bl) (ah (au (i:=2) cT.nd rfl (by walk_at "o") (am (ax (ok_top_by T) T.x_top_by hr (ab (ac 0) (ab (ac 1) ae)))))
  (ah (au (i:=3) cT.nd rfl (by walk_at "o") (am (ax (ok_ways_for T) T.x_ways_for hr (ab (ac 0) (ab (am (ax (ok_wish_for_less T) T.x_wish_for_less hr (ab (ac 0) (ab (ac 2) ae)))) ae)))))
  (ah (bD (pbc (cQ hr.units) (ak (ac 3) af (fun _ _=>rfl)) cO (aD _)) (aj (ar (aX (ab (ac 2) (ab (ac 1) (ab (ak (ac 3) af (fun _ _=>rfl)) ae)))))) aH)
  (aj (au (i:=1) cT.nd rfl (by walk_at "o") (ak (ac 3) af (fun _ _=>rfl)))))))))))
  sat_best_ways
theorem sc_lets_best:aq N_lets_best ["ring","thing"] (ai s_lets_best):=⟨rfl,rfl,rfl,by decide +kernel,rfl,by decide +kernel,by decide +kernel⟩
set_option maxHeartbeats 0 in
theorem ok_lets_best (T:Tx K mg ad fd):FnOk P w K mg base CX0 11 (ad 50) (fd 50) ["ring","thing"] (spF K 2 fs_lets_best) :=
 aJ (k:=10) T.x_lets_best.f sc_lets_best m_lets_best (fun cdv A outer s H E hr=>(ah (bD (PBw.pb (pbw_or (pb_not (bL (pl_isT kit_tuple rfl T.z_isinstance rfl T.z_tuple (by decide +kernel) (ac 1)))) (pbw_or (pbc (od_ne hr.units) (aC bg rfl T.z_len (by decide +kernel) (ab (ac 1) ae)) af (aD _)) (pbw_or1 (pb_not (bL (ax (ok_are_ways_with_top T) T.x_are_ways_with_top hr (ab (ac 0) (ab (ak (ac 1) af (fun _ _=>rfl)) (ab (ak (ac 1) af (fun _ _=>rfl)) ae)))))))))) (aj (ar pl_bl)) aH)
  (aj (ar (ax (ok_is_tree T) T.x_is_tree hr (ab (ac 0) (ab (am (ax (ok_wish_for_less T) T.x_wish_for_less hr (ab (ac 0) (ab (ak (ac 1) af (fun _ _=>rfl)) ae)))) (ab (ak (ac 1) af (fun _ _=>rfl)) ae))))))))
  sat_lets_best
theorem sc__law_begun:aq N__law_begun ["_law_script","_law_k"] (ai s__law_begun):=⟨rfl,rfl,rfl,by decide +kernel,rfl,by decide +kernel,by decide +kernel⟩
set_option maxHeartbeats 0 in
theorem cq (T:Tx K mg ad fd):FnOk P w K mg base CX0 1 (ad 51) (fd 51) ["_law_script","_law_k"] (spF K 2 bo) :=
 aJ (k:=0) T.x__law_begun.f sc__law_begun m__law_begun (fun cdv A outer s H E hr=>(ah (au (i:=2) sc__law_begun.nd rfl (by walk_at "o") af)
  (ah (bD (pbc od_lt (ac 1) (aC bg rfl T.z_len (by decide +kernel) (ab (ac 0) ae)) (aD _)) (aj (au (i:=2) sc__law_begun.nd rfl (by walk_at "o") (ak (ac 0) (ac 1) (fun _ _=>rfl)))) aH)
  (aj (ar (bv (ab (ac 2) (ab (ao cP (ao aY (ao aY (ao cP (ac 2) af) (ao aO (ao aO af (ac 1)) (ac 1))) af) af) (ab (bu od_ge (ac 2) (ao od_pow af af) (aD _)) ae)))))))))
  sat__law_begun
theorem cU:aq N__law_take ["_law_state","_law_many"] (ai s__law_take):=⟨rfl,rfl,rfl,by decide +kernel,rfl,by decide +kernel,by decide +kernel⟩
set_option maxHeartbeats 0 in
theorem aB (T:Tx K mg ad fd):FnOk P w K mg base CX0 1 (ad 52) (fd 52) ["_law_state","_law_many"] (spF K 2 ay) :=
 aJ (k:=0) T.x__law_take.f cU m__law_take (fun cdv A outer s H E hr=>(ah (bD (bL (pl_own (pl_ixV 0 af (fun _ _=>rfl)) (ak (ac 0) af (fun _ _=>rfl)))) (ah (au (i:=2) cU.nd rfl (by walk_at "o") (ao cP (pl_own (pl_ixV 0 af (fun _ _=>rfl)) (ak (ac 0) af (fun _ _=>rfl))) (ac 1)))
  (ah (pm_setV 0 af (ao od_div (pl_own (pl_ixV 0 af (fun _ _=>rfl)) (ak (ac 0) af (fun _ _=>rfl))) (ac 1)))
  (ah (pm_setV 0 af (bu od_gt (pl_own (pl_ixV 0 af (fun _ _=>rfl)) (ak (ac 0) af (fun _ _=>rfl))) af (aD _)))
  (aj (ar (pl_move 2)))))) aH)
  (ah (au (i:=3) cU.nd rfl (by walk_at "o") af)
  (ah (eV PassesOwn.never rfl (da rfl T.z_range (ao aY af (ao aO af (pl_callTD cd_int rfl T.z_int (by decide +kernel) (ab (bu od_gt (ac 1) (ao od_pow af af) (aD _)) ae))))) (fz (i:=4) cU.nd rfl (by walk_at "o")) (ah (pm_setV 0 af (ao cP (ao aY (ao aO (pl_own (pl_ixV 0 af (fun _ _=>rfl)) (ak (ac 0) af (fun _ _=>rfl))) af) af) af))
  (aj (au (i:=3) cU.nd rfl (by walk_at "o") (am (ao aY (ao aO (ac 3) af) (ao cP (ao aO (pl_own (pl_ixV 0 af (fun _ _=>rfl)) (ak (ac 0) af (fun _ _=>rfl))) (pl_own (pl_ixV 0 af (fun _ _=>rfl)) (ak (ac 0) af (fun _ _=>rfl)))) af)))))))
  (aj (ar (ao cP (ao od_div (ac 3) af) (ac 1))))))))
  sat__law_take
theorem cv:aq N__law_names ["_law_state","_law_many"] (ai cR):=⟨rfl,rfl,rfl,by decide +kernel,rfl,by decide +kernel,by decide +kernel⟩
set_option maxHeartbeats 0 in
theorem ok__law_names (T:Tx K mg ad fd):FnOk P w K mg base CX0 2 (ad 53) (fd 53) ["_law_state","_law_many"] (spF K 2 fs__law_names) :=
 aJ (k:=1) T.x__law_names.f cv m__law_names (fun cdv A outer s H E hr=>(ah (au (i:=2) cv.nd rfl (by walk_at "o") cO)
  (ah (au (i:=3) cv.nd rfl (by walk_at "o") (am (pl_join (bc (sc:=(ai cR)) (N:=N__law_names) (Nt:=["_law_k"]) (Nf:=["_law_letters","_law_state"]) (fi:=[2,0]) rfl rfl rfl (da rfl T.z_range (ao aY af (bq (aB T) T.x__law_take hr 0 0 (aU 0 (ab af ae))))) rfl (by decide +kernel) (by decide +kernel) (by decide +kernel) (by decide) rfl (by decide +kernel) (by decide) (fun _ _ _ _=>(ba (by decide) (show ((["_law_k"]:List Str)++(["_law_letters","_law_state"]:List Str)).Nodup by decide +kernel) rfl (Or.inl rfl))) (fun _ _ _ _=>aZ) (fun _ _ _ _=>(ak (ac 1) (bq (aB T) T.x__law_take hr 0 2 (aU 2 (ab af ae))) (fun _ _=>rfl)))))))
  (ah (au (i:=4) cv.nd rfl (by walk_at "o") (am (bq (aB T) T.x__law_take hr 0 0 (aU 0 (ab (am (aC bg rfl T.z_len (by decide +kernel) (ab (ac 3) ae))) ae)))))
  (ah (au (i:=5) cv.nd rfl (by walk_at "o") (am (bq (aB T) T.x__law_take hr 0 0 (aU 0 (ab af ae)))))
  (aj (ar (bc (sc:=(ai cR)) (N:=N__law_names) (Nt:=["_law_k"]) (Nf:=["_law_base","_law_at","_law_letters","_law_turn"]) (fi:=[3,4,2,5]) rfl rfl rfl (da rfl T.z_range (ac 1)) rfl (by decide +kernel) (by decide +kernel) (by decide +kernel) (by decide) rfl (by decide +kernel) (by decide) (fun _ _ _ _=>(ba (by decide) (show ((["_law_k"]:List Str)++(["_law_base","_law_at","_law_letters","_law_turn"]:List Str)).Nodup by decide +kernel) rfl (Or.inl rfl))) (fun _ _ _ _=>aZ) (fun _ _ _ _=>(ao aY (ao aY (pl_slice2 (ac 1) trivial (ac 2)) (ak (ac 3) (ao cP (ao aY (ac 4) (ac 0)) af) (fun _ _=>rfl))) (pl_slice2 (ac 1) (ao aY (ac 2) af) trivial)))))))))))
  sat__law_names
theorem dP:aq N__law_low ["_law_top","_law_bottom"] (ai s__law_low):=⟨rfl,rfl,rfl,by decide +kernel,rfl,by decide +kernel,by decide +kernel⟩
set_option maxHeartbeats 0 in
theorem ok__law_low (T:Tx K mg ad fd):FnOk P w K mg base CX0 1 (ad 54) (fd 54) ["_law_top","_law_bottom"] (spF K 2 dL) :=
 aJ (k:=0) T.x__law_low.f dP m__law_low (fun cdv A outer s H E hr=>(ah (au (i:=2) dP.nd rfl (by walk_at "o") (am (aC cd_abs rfl T.z_abs (by decide +kernel) (ab (ac 0) ae))))
  (ah (au (i:=3) dP.nd rfl (by walk_at "o") (am (aC cd_abs rfl T.z_abs (by decide +kernel) (ab (ac 1) ae))))
  (ah (pm_while PassesOwn.never (pbc (od_ne hr.units) (ac 2) af (aD _)) (aj (pm_par (i:=2) (j:=3) rfl dP.nd rfl rfl (by decide) rfl rfl (ao cP (ac 3) (ac 2)) (ac 2) rfl)))
  (ah (bD (pbc od_lt (ac 1) af (aD _)) (aj (au (i:=3) dP.nd rfl (by walk_at "o") (ao od_sub af (ac 3)))) aH)
  (aj (ar (aX (ab (ao od_div (ac 0) (ac 3)) (ab (ao od_div (ac 1) (ac 3)) ae))))))))))
  sat__law_low
theorem eR:aq N__law_amount ["_law_state","_law_least","_law_kind"] (ai fL):=⟨rfl,rfl,rfl,by decide +kernel,rfl,by decide +kernel,by decide +kernel⟩
set_option maxHeartbeats 0 in
theorem eT (T:Tx K mg ad fd):FnOk P w K mg base CX0 2 (ad 55) (fd 55) ["_law_state","_law_least","_law_kind"] (spF K 3 bS) :=
 aJ (k:=1) T.x__law_amount.f eR m__law_amount (fun cdv A outer s H E hr=>by exact (@ah _ _ _ _ _ (@au _ _ _ 3 _ _ _ eR.nd rfl (by walk_at "o") (@am _ _ _ (@ao _ _ _ _ _ _ _ _ aY af (bq (aB T) T.x__law_take hr 0 0 (aU 0 (@ab _ _ _ _ _ _ (ak (@bv _ _ _ _ _ (@ab _ _ _ _ _ _ af (@ab _ _ _ _ _ _ af (@ab _ _ _ _ _ _ af (@ab _ _ _ _ _ _ af (@ab _ _ _ _ _ _ af ae (by kernel_rfl)) (by kernel_rfl)) (by kernel_rfl)) (by kernel_rfl)) (by kernel_rfl))) (ac 2) (fun _ _=>rfl)) ae (by kernel_rfl)))))) (by kernel_rfl) (by first | exact .inl rfl | exact .inr rfl)) (@ah _ _ _ _ _ (@au _ _ _ 4 _ _ _ eR.nd rfl (by walk_at "o") (@am _ _ _ (@ao _ _ _ _ _ _ _ _ aY (ac 1) (bq (aB T) T.x__law_take hr 0 0 (aU 0 (@ab _ _ _ _ _ _ (ak (@bv _ _ _ _ _ (@ab _ _ _ _ _ _ af (@ab _ _ _ _ _ _ af (@ab _ _ _ _ _ _ af (@ab _ _ _ _ _ _ af (@ab _ _ _ _ _ _ (@ao _ _ _ _ _ _ _ _ od_pow af af) ae (by kernel_rfl)) (by kernel_rfl)) (by kernel_rfl)) (by kernel_rfl)) (by kernel_rfl))) (ac 2) (fun _ _=>rfl)) ae (by kernel_rfl)))))) (by kernel_rfl) (by first | exact .inl rfl | exact .inr rfl)) (aj (ar (ax (ok__law_low T) T.x__law_low hr (@ab _ _ _ _ _ _ (ac 4) (@ab _ _ _ _ _ _ (ac 3) ae (by kernel_rfl)) (by kernel_rfl))))))))
  sat__law_amount
theorem bK:aq N__law_rooms ["_law_state","_law_ties","_law_kind"] (ai s__law_rooms):=⟨rfl,rfl,rfl,by decide +kernel,rfl,by decide +kernel,by decide +kernel⟩
set_option maxHeartbeats 0 in
theorem ok__law_rooms (T:Tx K mg ad fd):FnOk P w K mg base CX0 3 (ad 56) (fd 56) ["_law_state","_law_ties","_law_kind"] (spF K 3 fs__law_rooms) :=
 aJ (k:=2) T.x__law_rooms.f bK m__law_rooms (fun cdv A outer s H E hr=>(ah (au (i:=3) bK.nd rfl (by walk_at "o") (am (bq (aB T) T.x__law_take hr 0 0 (aU 0 (ab af ae)))))
  (ah (au (i:=4) bK.nd rfl (by walk_at "o") (am (bq (eT T) T.x__law_amount hr 0 0 (aU 0 (ab af (ab (ac 2) ae))))))
  (ah (bD (pbc (cQ hr.units) (ac 3) af (aD _)) (aj (au (i:=4) bK.nd rfl (by walk_at "o") (aX (ab af (ab af ae))))) aH)
  (ah (au (i:=5) bK.nd rfl (by walk_at "o") (bv (ab (ac 4) ae)))
  (ah (pm_while PassesOwn.never (pbc od_lt (pl_own (pl_lenV 5 rfl T.z_len) (aC bg rfl T.z_len PySem.boot_len (ab (ac 5) ae))) (ac 1) (aD _)) (ah (au (i:=6) bK.nd rfl (by walk_at "o") (am (bq (eT T) T.x__law_amount hr 0 0 (aU 0 (ab af (ab (ac 2) ae))))))
  (aj (fw (eY 5 (ak (bv (ab (ac 4) (ab (ac 6) ae))) (pl_callTD cd_int rfl T.z_int (by decide +kernel) (ab (bu (cQ hr.units) (ac 3) af (aD _)) ae)) (fun _ _=>rfl)))))))
  (aj (ar (pl_move 5)))))))))
  sat__law_rooms
theorem sc__law_ends:aq N__law_ends ["_law_state","_law_shape","_law_places","_law_k"] (ai s__law_ends):=⟨rfl,rfl,rfl,by decide +kernel,rfl,by decide +kernel,by decide +kernel⟩
set_option maxHeartbeats 0 in
theorem ok__law_ends (T:Tx K mg ad fd):FnOk P w K mg base CX0 2 (ad 57) (fd 57) ["_law_state","_law_shape","_law_places","_law_k"] (spF K 4 fs__law_ends) :=
 aJ (k:=1) T.x__law_ends.f sc__law_ends m__law_ends (fun cdv A outer s H E hr=>(ah (au (i:=4) sc__law_ends.nd rfl (by walk_at "o") (am (bq (aB T) T.x__law_take hr 0 0 (aU 0 (ab (ac 2) ae)))))
  (ah (au (i:=5) sc__law_ends.nd rfl (by walk_at "o") (ao cP (ao aY (ao aY (ac 4) af) (bq (aB T) T.x__law_take hr 0 0 (aU 0 (ab (ao od_sub (ac 2) af) ae)))) (ac 2)))
  (ah (bD (pbc (cQ hr.units) (ac 1) af (aD _)) (aj (ar (aX (ab (ao cP (ac 3) (ac 2)) (ab (ao cP (ao aY (ac 3) (ao od_div (ac 2) af)) (ac 2)) ae))))) aH)
  (ah (bD (pbc (cQ hr.units) (ac 1) af (aD _)) (aj (ar (aX (ab (am (ao aO (ao cP (ac 3) af) (ao od_sub (ac 2) af))) (ab (am (ao aO (ao od_sub af (ao cP (ac 3) af)) (ao od_sub (ac 2) af))) ae))))) aH)
  (ah (bD (pbc (cQ hr.units) (ac 1) af (aD _)) (aj (ar (aX (ab af (ab (am (ao aY af (ao cP (ac 5) (ao od_sub (ac 2) af)))) ae))))) aH)
  (aj (ar (aX (ab (ac 4) (ab (ac 5) ae)))))))))))
  sat__law_ends
theorem aM:aq N__law_ring ["_law_script","_law_at","_law_most","_law_count"] (ai s__law_ring):=⟨rfl,rfl,rfl,by decide +kernel,rfl,by decide +kernel,by decide +kernel⟩
set_option maxHeartbeats 0 in
theorem ok__law_ring (T:Tx K mg ad fd):FnOk P w K mg base CX0 4 (ad 58) (fd 58) ["_law_script","_law_at","_law_most","_law_count"] (spF K 4 fs__law_ring) :=
 aJ (k:=3) T.x__law_ring.f aM m__law_ring (fun cdv A outer s H E hr=>by exact (@ah _ _ _ _ _ (@au _ _ _ 4 _ _ _ aM.nd rfl (by walk_at "o") (ax (cq T) T.x__law_begun hr (@ab _ _ _ _ _ _ (ac 0) (@ab _ _ _ _ _ _ (ac 1) ae (by kernel_rfl)) (by kernel_rfl))) (by kernel_rfl) (by first | exact .inl rfl | exact .inr rfl)) (@ah _ _ _ _ _ (@au _ _ _ 5 _ _ _ aM.nd rfl (by walk_at "o") (@am _ _ _ (@ao _ _ _ _ _ _ _ _ aY af (bq (aB T) T.x__law_take hr 0 4 (aU 4 (@ab _ _ _ _ _ _ (@ao _ _ _ _ _ _ _ _ od_sub (ac 2) af) ae (by kernel_rfl)))))) (by kernel_rfl) (by first | exact .inl rfl | exact .inr rfl)) (@ah _ _ _ _ _ (@au _ _ _ 6 _ _ _ aM.nd rfl (by walk_at "o") (@am _ _ _ (bq (aB T) T.x__law_take hr 0 4 (aU 4 (@ab _ _ _ _ _ _ (@am _ _ _ (@ao _ _ _ _ _ _ _ _ aY (ac 3) af)) ae (by kernel_rfl))))) (by kernel_rfl) (by first | exact .inl rfl | exact .inr rfl)) (@ah _ _ _ _ _ (@au _ _ _ 7 _ _ _ aM.nd rfl (by walk_at "o") (@am _ _ _ (@bv _ _ _ _ _ (@ab _ _ _ _ _ _ (@am _ _ _ (bq (aB T) T.x__law_take hr 0 4 (aU 4 (@ab _ _ _ _ _ _ af ae (by kernel_rfl))))) (@ab _ _ _ _ _ _ (@am _ _ _ (bq (aB T) T.x__law_take hr 0 4 (aU 4 (@ab _ _ _ _ _ _ af ae (by kernel_rfl))))) ae (by kernel_rfl)) (by kernel_rfl)))) (by kernel_rfl) (by first | exact .inl rfl | exact .inr rfl)) (@ah _ _ _ _ _ (@au _ _ _ 8 _ _ _ aM.nd rfl (by walk_at "o") (@am _ _ _ (bq (aB T) T.x__law_take hr 0 4 (aU 4 (@ab _ _ _ _ _ _ af ae (by kernel_rfl))))) (by kernel_rfl) (by first | exact .inl rfl | exact .inr rfl)) (@ah _ _ _ _ _ (@au _ _ _ 9 _ _ _ aM.nd rfl (by walk_at "o") (@am _ _ _ (bq (ok__law_names T) T.x__law_names hr 0 4 (aU 4 (@ab _ _ _ _ _ _ (ac 6) ae (by kernel_rfl))))) (by kernel_rfl) (by first | exact .inl rfl | exact .inr rfl)) (@ah _ _ _ _ _ (@au _ _ _ 10 _ _ _ aM.nd rfl (by walk_at "o") (@am _ _ _ (ax (ok__law_rooms T) T.x__law_rooms hr (@ab _ _ _ _ _ _ (ax (cq T) T.x__law_begun hr (@ab _ _ _ _ _ _ (ac 0) (@ab _ _ _ _ _ _ (@am _ _ _ (@ao _ _ _ _ _ _ _ _ aY (ac 1) af)) ae (by kernel_rfl)) (by kernel_rfl))) (@ab _ _ _ _ _ _ (ac 5) (@ab _ _ _ _ _ _ (ak (ac 7) af (fun _ _=>rfl)) ae (by kernel_rfl)) (by kernel_rfl)) (by kernel_rfl)))) (by kernel_rfl) (by first | exact .inl rfl | exact .inr rfl)) (@ah _ _ _ _ _ (@au _ _ _ 4 _ _ _ aM.nd rfl (by walk_at "o") (ax (cq T) T.x__law_begun hr (@ab _ _ _ _ _ _ (ac 0) (@ab _ _ _ _ _ _ (@am _ _ _ (@ao _ _ _ _ _ _ _ _ aY (ac 1) af)) ae (by kernel_rfl)) (by kernel_rfl))) (by kernel_rfl) (by first | exact .inl rfl | exact .inr rfl)) (@ah _ _ _ _ _ (@au _ _ _ 11 _ _ _ aM.nd rfl (by walk_at "o") (@bv _ _ _ _ _ ae) (by kernel_rfl) (by first | exact .inl rfl | exact .inr rfl)) (@ah _ _ _ _ _ (eV PassesOwn.never rfl (da rfl T.z_range (ac 6)) (fz (i:=12) aM.nd rfl (by walk_at "o")) (@ah _ _ _ _ _ (pm_asgT (tg_tup rfl (bi (i:=13) aM.nd rfl (by walk_at "o") (bi (i:=14) aM.nd rfl (by walk_at "o") tgs_nil))) (bq (ok__law_ends T) T.x__law_ends hr 0 4 (aU 4 (@ab _ _ _ _ _ _ (ac 8) (@ab _ _ _ _ _ _ (ac 5) (@ab _ _ _ _ _ _ (ac 12) ae (by kernel_rfl)) (by kernel_rfl)) (by kernel_rfl))))) (aj (fw (eY 11 (@aX _ _ _ _ _ _ (@ab _ _ _ _ _ _ (ak (ac 9) (ac 12) (fun _ _=>rfl)) (@ab _ _ _ _ _ _ (ac 13) (@ab _ _ _ _ _ _ (ac 14) (@ab _ _ _ _ _ _ (@am _ _ _ (bq (eT T) T.x__law_amount hr 0 4 (aU 4 (@ab _ _ _ _ _ _ af (@ab _ _ _ _ _ _ (ak (ac 7) af (fun _ _=>rfl)) ae (by kernel_rfl)) (by kernel_rfl))))) ae (by kernel_rfl)) (by kernel_rfl)) (by kernel_rfl)) (by kernel_rfl)))))))) (aj (ar (@aX _ _ _ _ _ _ (@ab _ _ _ _ _ _ (ac 10) (@ab _ _ _ _ _ _ (ac 11) ae (by kernel_rfl)) (by kernel_rfl))))))))))))))))
  sat__law_ring
theorem bY:aq dD ["_law_many"] (ai bF):=⟨rfl,rfl,rfl,by decide +kernel,rfl,by decide +kernel,by decide +kernel⟩
set_option maxHeartbeats 0 in
theorem ok__law_all_ways (T:Tx K mg ad fd):FnOk P w K mg base CX0 1 (ad 59) (fd 59) ["_law_many"] (spF K 1 c7) :=
 aJ (k:=0) T.x__law_all_ways.f bY dM (fun cdv A outer s H E hr=>(ah (au (i:=1) bY.nd rfl (by walk_at "o") (bv (ab (am (bv ae)) ae)))
  (ah (eV PassesOwn.never rfl (da rfl T.z_range (ac 0)) (fz (i:=2) bY.nd rfl (by walk_at "o")) (aj (au (i:=1) bY.nd rfl (by walk_at "o") (ao aY (bc (sc:=(ai bF)) (N:=dD) (Nt:=["_law_ways_here"]) (Nf:=[]) (fi:=[]) rfl rfl rfl (a9 (ac 1)) rfl (by decide +kernel) (by decide +kernel) (by decide +kernel) (by decide) rfl (by decide +kernel) (by decide) (fun _ _ _ _=>(ba (by decide) (show ((["_law_ways_here"]:List Str)++([]:List Str)).Nodup by decide +kernel) rfl (Or.inl rfl))) (fun _ _ _ _=>aZ) (fun _ _ _ _=>(ao aY (ac 0) (bv (ab cO ae))))) (bc (sc:=(ai bF)) (N:=dD) (Nt:=["_law_ways_here"]) (Nf:=[]) (fi:=[]) rfl rfl rfl (a9 (ac 1)) rfl (by decide +kernel) (by decide +kernel) (by decide +kernel) (by decide) rfl (by decide +kernel) (by decide) (fun _ _ _ _=>(ba (by decide) (show ((["_law_ways_here"]:List Str)++([]:List Str)).Nodup by decide +kernel) rfl (Or.inl rfl))) (fun _ _ _ _=>aZ) (fun _ _ _ _=>(ao aY (ac 0) (bv (ab cO ae)))))))))
  (aj (ar (pl_move 1))))))
  sat__law_all_ways
theorem sc__law_under:aq N__law_under ["_law_one","_law_other"] (ai s__law_under):=⟨rfl,rfl,rfl,by decide +kernel,rfl,by decide +kernel,by decide +kernel⟩
set_option maxHeartbeats 0 in
theorem ok__law_under (T:Tx K mg ad fd):FnOk P w K mg base CX0 1 (ad 60) (fd 60) ["_law_one","_law_other"] (spF K 2 fs__law_under) :=
 aJ (k:=0) T.x__law_under.f sc__law_under m__law_under (fun cdv A outer s H E hr=>(aj (ar (bu od_lt (ao aO (ak (ac 0) af (fun _ _=>rfl)) (ak (ac 1) af (fun _ _=>rfl))) (ao aO (ak (ac 1) af (fun _ _=>rfl)) (ak (ac 0) af (fun _ _=>rfl))) (aD _)))))
  sat__law_under
theorem aT:aq N__law_best_right ["_law_ring_here","_law_every"] (ai cB):=⟨rfl,rfl,rfl,by decide +kernel,rfl,by decide +kernel,by decide +kernel⟩
set_option maxHeartbeats 0 in
theorem ok__law_best_right (T:Tx K mg ad fd):FnOk P w K mg base CX0 17 (ad 61) (fd 61) ["_law_ring_here","_law_every"] (spF K 2 cn) :=
 aJ (k:=16) T.x__law_best_right.f aT cG (fun cdv A outer s H E hr=>by exact (@ah _ _ _ _ _ (pm_asgT (tg_tup rfl (bi (i:=2) aT.nd rfl (by walk_at "o") (bi (i:=3) aT.nd rfl (by walk_at "o") (bi (i:=4) aT.nd rfl (by walk_at "o") tgs_nil)))) (ax (ok_best_ways T) T.x_best_ways hr (@ab _ _ _ _ _ _ (ac 0) ae (by kernel_rfl)))) (@ah _ _ _ _ _ (bD (pbc (od_notInS hr.units) (ac 3) (ac 1) rfl) (aj (ar pl_bl)) aH) (@ah _ _ _ _ _ (eV PassesOwn.never rfl (a9 (ac 1)) (fz (i:=5) aT.nd rfl (by walk_at "o")) (@ah _ _ _ _ _ (@au _ _ _ 6 _ _ _ aT.nd rfl (by walk_at "o") (ak (ax (ok_top_of T) T.x_top_of hr (@ab _ _ _ _ _ _ (ac 0) (@ab _ _ _ _ _ _ (@am _ _ _ (ax (ok_sent_by T) T.x_sent_by hr (@ab _ _ _ _ _ _ (ac 0) (@ab _ _ _ _ _ _ (ac 5) ae (by kernel_rfl)) (by kernel_rfl)))) ae (by kernel_rfl)) (by kernel_rfl))) af (fun _ _=>rfl)) (by kernel_rfl) (by first | exact .inl rfl | exact .inr rfl)) (aj (bD (PBw.pb (pbw_or (bL (ax (ok__law_under T) T.x__law_under hr (@ab _ _ _ _ _ _ (ac 6) (@ab _ _ _ _ _ _ (ac 2) ae (by kernel_rfl)) (by kernel_rfl)))) (pbw_or1 (pbc (od_ne hr.units) (ax (ok_lets_best T) T.x_lets_best hr (@ab _ _ _ _ _ _ (ac 0) (@ab _ _ _ _ _ _ (@aX _ _ _ _ _ _ (@ab _ _ _ _ _ _ (ac 2) (@ab _ _ _ _ _ _ (@am _ _ _ (pl_callTD cd_list rfl T.z_list (by decide +kernel) (@ab _ _ _ _ _ _ (ac 5) ae (by kernel_rfl)))) (@ab _ _ _ _ _ _ (ac 4) ae (by kernel_rfl)) (by kernel_rfl)) (by kernel_rfl))) ae (by kernel_rfl)) (by kernel_rfl))) (bu (cQ hr.units) (ac 6) (ac 2) (aD _)) (aD _))))) (aj (ar pl_bl)) aH)))) (aj (ar pl_bl))))))
  sat__law_best_right
theorem sc__law_lets:aq N__law_lets ["_law_ring_here","_law_wish_here","_law_tree"] (ai s__law_lets):=⟨rfl,rfl,rfl,by decide +kernel,rfl,by decide +kernel,by decide +kernel⟩
set_option maxHeartbeats 0 in
theorem ok__law_lets (T:Tx K mg ad fd):FnOk P w K mg base CX0 7 (ad 62) (fd 62) ["_law_ring_here","_law_wish_here","_law_tree"] (spF K 3 fs__law_lets) :=
 aJ (k:=6) T.x__law_lets.f sc__law_lets m__law_lets (fun cdv A outer s H E hr=>(ah (pm_try (fun _ _ z=>z) (aj (fw (ax (ok_look_at_tree T) T.x_look_at_tree hr (ab (ac 0) (ab (ac 1) (ab (ac 2) ae)))))))
  (aj (ar pl_bl))))
  sat__law_lets
theorem cw:aq N__law_right ["_law_ring_here","_law_wish_here","_law_every"] (ai d5):=⟨rfl,rfl,rfl,by decide +kernel,rfl,by decide +kernel,by decide +kernel⟩
set_option maxHeartbeats 0 in
theorem ok__law_right (T:Tx K mg ad fd):FnOk P w K mg base CX0 16 (ad 63) (fd 63) ["_law_ring_here","_law_wish_here","_law_every"] (spF K 3 fs__law_right) :=
 aJ (k:=15) T.x__law_right.f cw m__law_right (fun cdv A outer s H E hr=>by exact (@ah _ _ _ _ _ (pm_asgT (tg_tup rfl (bi (i:=3) cw.nd rfl (by walk_at "o") (bi (i:=4) cw.nd rfl (by walk_at "o") tgs_nil))) (ax (ok_ways_for T) T.x_ways_for hr (@ab _ _ _ _ _ _ (ac 0) (@ab _ _ _ _ _ _ (ac 1) ae (by kernel_rfl)) (by kernel_rfl)))) (@ah _ _ _ _ _ (pm_setC cw.nd (j:=5) rfl (by walk_at "o") (sc:=(ai d5)) (N:=N__law_right) (Nt:=[ "_law_ways_here" ]) (Nf:=[ "_law_ring_here" ,"_law_wish_here" ]) (fi:=[0,1]) rfl rfl rfl (a9 (ac 2)) rfl (by decide +kernel) (by decide +kernel) (by decide +kernel) (by decide) rfl (by decide +kernel) (by decide) (fun _ _ _ _=>(ba (by decide) (show (([ "_law_ways_here" ]:List Str)++([ "_law_ring_here" ,"_law_wish_here" ]:List Str)).Nodup by decide +kernel) rfl (Or.inl rfl))) (fun _ _ _ _=>(pif_one (pbc od_isN' (ax (ok_broken_wish T) T.x_broken_wish hr (@ab _ _ _ _ _ _ (ac 1) (@ab _ _ _ _ _ _ (ac 2) (@ab _ _ _ _ _ _ (ac 0) ae (by kernel_rfl)) (by kernel_rfl)) (by kernel_rfl))) pl_non (aD _)))) (fun _ _ _ _=>(ac 0))) (@ah _ _ _ _ _ (bD (pbc (od_ne hr.units) (ac 3) (ak (@bv _ _ _ _ _ (@ab _ _ _ _ _ _ cO (@ab _ _ _ _ _ _ cO ae (by kernel_rfl)) (by kernel_rfl))) (pl_callTD cd_int rfl T.z_int (by decide +kernel) (@ab _ _ _ _ _ _ (bu (cQ hr.units) (ac 5) (@bv _ _ _ _ _ ae) (aD _)) ae (by kernel_rfl))) (fun _ _=>rfl)) (aD _)) (aj (ar pl_bl)) aH) (@ah _ _ _ _ _ (bD (pbc (cQ hr.units) (ac 5) (@bv _ _ _ _ _ ae) (aD _)) (aj (ar (ax (ok__law_lets T) T.x__law_lets hr (@ab _ _ _ _ _ _ (ac 0) (@ab _ _ _ _ _ _ (ac 1) (@ab _ _ _ _ _ _ (ac 4) ae (by kernel_rfl)) (by kernel_rfl)) (by kernel_rfl))))) aH) (@ah _ _ _ _ _ (bD (pbc (od_notInS hr.units) (ac 4) (ac 5) rfl) (aj (ar pl_bl)) aH) (@ah _ _ _ _ _ (@au _ _ _ 6 _ _ _ cw.nd rfl (by walk_at "o") (@am _ _ _ (ax (ok_ways_for T) T.x_ways_for hr (@ab _ _ _ _ _ _ (ac 0) (@ab _ _ _ _ _ _ (@aX _ _ _ _ _ _ (@ab _ _ _ _ _ _ (ak (ac 1) af (fun _ _=>rfl)) (@ab _ _ _ _ _ _ (ak (ac 1) af (fun _ _=>rfl)) (@ab _ _ _ _ _ _ (ac 4) (@ab _ _ _ _ _ _ af ae (by kernel_rfl)) (by kernel_rfl)) (by kernel_rfl)) (by kernel_rfl))) ae (by kernel_rfl)) (by kernel_rfl)))) (by kernel_rfl) (by first | exact .inl rfl | exact .inr rfl)) (aj (ar (bu (cQ hr.units) (ac 6) (@aX _ _ _ _ _ _ (@ab _ _ _ _ _ _ cO (@ab _ _ _ _ _ _ (ac 4) ae (by kernel_rfl)) (by kernel_rfl))) (aD _)))))))))))
  sat__law_right
theorem sc__law_ways:aq N__law_ways ["_law_state","_law_many"] (ai fM):=⟨rfl,rfl,rfl,by decide +kernel,rfl,by decide +kernel,by decide +kernel⟩
set_option maxHeartbeats 0 in
theorem ok__law_ways (T:Tx K mg ad fd):FnOk P w K mg base CX0 2 (ad 64) (fd 64) ["_law_state","_law_many"] (spF K 2 fs__law_ways) :=
 aJ (k:=1) T.x__law_ways.f sc__law_ways m__law_ways (fun cdv A outer s H E hr=>(aj (ar (bc (sc:=(ai fM)) (N:=N__law_ways) (Nt:=["_law_k"]) (Nf:=["_law_state"]) (fi:=[0]) rfl rfl rfl (da rfl T.z_range (ac 1)) rfl (by decide +kernel) (by decide +kernel) (by decide +kernel) (by decide) rfl (by decide +kernel) (by decide) (fun _ _ _ _=>(ba (by decide) (show ((["_law_k"]:List Str)++(["_law_state"]:List Str)).Nodup by decide +kernel) rfl (Or.inl rfl))) (fun _ _ _ _=>aZ) (fun _ _ _ _=>(ak (bv (ab cO (ab cO ae))) (bq (aB T) T.x__law_take hr 0 1 (aU 1 (ab af ae))) (fun _ _=>rfl)))))))
  sat__law_ways
theorem sc__law_wish:aq N__law_wish ["_law_state","_law_ring_here","_law_elder"] (ai s__law_wish):=⟨rfl,rfl,rfl,by decide +kernel,rfl,by decide +kernel,by decide +kernel⟩
set_option maxHeartbeats 0 in
theorem ok__law_wish (T:Tx K mg ad fd):FnOk P w K mg base CX0 9 (ad 65) (fd 65) ["_law_state","_law_ring_here","_law_elder"] (spF K 3 fs__law_wish) :=
 aJ (k:=8) T.x__law_wish.f sc__law_wish m__law_wish (fun cdv A outer s H E hr=>by exact (@ah _ _ _ _ _ (@au _ _ _ 3 _ _ _ sc__law_wish.nd rfl (by walk_at "o") (ak (ax (ok_top_of T) T.x_top_of hr (@ab _ _ _ _ _ _ (ac 1) (@ab _ _ _ _ _ _ (@am _ _ _ (ax (ok_sent_by T) T.x_sent_by hr (@ab _ _ _ _ _ _ (ac 1) (@ab _ _ _ _ _ _ (@am _ _ _ (bq (ok__law_ways T) T.x__law_ways hr 0 0 (aU 0 (@ab _ _ _ _ _ _ (@am _ _ _ (aC bg rfl T.z_len (by decide +kernel) (@ab _ _ _ _ _ _ (ak (ac 1) af (fun _ _=>rfl)) ae (by kernel_rfl)))) ae (by kernel_rfl))))) ae (by kernel_rfl)) (by kernel_rfl)))) ae (by kernel_rfl)) (by kernel_rfl))) af (fun _ _=>rfl)) (by kernel_rfl) (by first | exact .inl rfl | exact .inr rfl)) (@ah _ _ _ _ _ (bD (pbc (cQ hr.units) (bq (aB T) T.x__law_take hr 0 0 (aU 0 (@ab _ _ _ _ _ _ af ae (by kernel_rfl)))) af (aD _)) (aj (@au _ _ _ 3 _ _ _ sc__law_wish.nd rfl (by walk_at "o") (@am _ _ _ (ax (ok__law_low T) T.x__law_low hr (@ab _ _ _ _ _ _ (@am _ _ _ (@ao _ _ _ _ _ _ _ _ aO (ak (ac 3) af (fun _ _=>rfl)) af)) (@ab _ _ _ _ _ _ (@am _ _ _ (@ao _ _ _ _ _ _ _ _ aO (ak (ac 3) af (fun _ _=>rfl)) af)) ae (by kernel_rfl)) (by kernel_rfl)))) (by kernel_rfl) (by first | exact .inl rfl | exact .inr rfl))) aH) (aj (ar (@aX _ _ _ _ _ _ (@ab _ _ _ _ _ _ (ac 3) (@ab _ _ _ _ _ _ (bu (cQ hr.units) (bq (aB T) T.x__law_take hr 0 0 (aU 0 (@ab _ _ _ _ _ _ af ae (by kernel_rfl)))) af (aD _)) (@ab _ _ _ _ _ _ (ac 2) (@ab _ _ _ _ _ _ (@am _ _ _ (bq (aB T) T.x__law_take hr 0 0 (aU 0 (@ab _ _ _ _ _ _ (@am _ _ _ (@ao _ _ _ _ _ _ _ _ aY (aC bg rfl T.z_len (by decide +kernel) (@ab _ _ _ _ _ _ (ak (ac 1) af (fun _ _=>rfl)) ae (by kernel_rfl))) af)) ae (by kernel_rfl))))) ae (by kernel_rfl)) (by kernel_rfl)) (by kernel_rfl)) (by kernel_rfl))))))))
  sat__law_wish
theorem sc_law:aq N_law ["_law_script"] (ai s_law):=⟨rfl,rfl,rfl,by decide +kernel,rfl,by decide +kernel,by decide +kernel⟩
set_option maxHeartbeats 0 in
theorem ok_law (T:Tx K mg ad fd):FnOk P w K mg base CX0 18 (ad 66) (fd 66) ["_law_script"] (spF K 1 fs_law) :=
 aJ (k:=17) T.x_law.f sc_law m_law (fun cdv A outer s H E hr=>by exact (@ah _ _ _ _ _ (@au _ _ _ 1 _ _ _ sc_law.nd rfl (by walk_at "o") (@am _ _ _ (ax (ok__law_ring T) T.x__law_ring hr (@ab _ _ _ _ _ _ (ac 0) (@ab _ _ _ _ _ _ af (@ab _ _ _ _ _ _ af (@ab _ _ _ _ _ _ af ae (by kernel_rfl)) (by kernel_rfl)) (by kernel_rfl)) (by kernel_rfl)))) (by kernel_rfl) (by first | exact .inl rfl | exact .inr rfl)) (@ah _ _ _ _ _ (@au _ _ _ 2 _ _ _ sc_law.nd rfl (by walk_at "o") (@am _ _ _ (ax (ok__law_all_ways T) T.x__law_all_ways hr (@ab _ _ _ _ _ _ (@am _ _ _ (aC bg rfl T.z_len (by decide +kernel) (@ab _ _ _ _ _ _ (ak (ac 1) af (fun _ _=>rfl)) ae (by kernel_rfl)))) ae (by kernel_rfl)))) (by kernel_rfl) (by first | exact .inl rfl | exact .inr rfl)) (@ah _ _ _ _ _ (@au _ _ _ 3 _ _ _ sc_law.nd rfl (by walk_at "o") (ax (cq T) T.x__law_begun hr (@ab _ _ _ _ _ _ (ac 0) (@ab _ _ _ _ _ _ af ae (by kernel_rfl)) (by kernel_rfl))) (by kernel_rfl) (by first | exact .inl rfl | exact .inr rfl)) (@ah _ _ _ _ _ (pm_setC sc_law.nd (j:=4) rfl (by walk_at "o") (sc:=(ai s_law)) (N:=N_law) (Nt:=[ "_law_ask" ]) (Nf:=[ "_law_state" ]) (fi:=[3]) rfl rfl rfl (a9 (ak (ac 1) af (fun _ _=>rfl))) rfl (by decide +kernel) (by decide +kernel) (by decide +kernel) (by decide) rfl (by decide +kernel) (by decide) (fun _ _ _ _=>(ba (by decide) (show (([ "_law_ask" ]:List Str)++([ "_law_state" ]:List Str)).Nodup by decide +kernel) rfl (Or.inl rfl))) (fun _ _ _ _=>aZ) (fun _ _ _ _=>(ak (@bv _ _ _ _ _ (@ab _ _ _ _ _ _ cO (@ab _ _ _ _ _ _ cO (@ab _ _ _ _ _ _ pl_non ae (by kernel_rfl)) (by kernel_rfl)) (by kernel_rfl))) (bq (aB T) T.x__law_take hr 0 1 (aU 1 (@ab _ _ _ _ _ _ af ae (by kernel_rfl)))) (fun _ _=>rfl)))) (@ah _ _ _ _ _ (eV PassesOwn.never rfl (pil_rng2 rfl T.z_range af (aC (cd_max rfl) rfl T.z_max (by decide +kernel) (@ab _ _ _ _ _ _ af (@ab _ _ _ _ _ _ (@am _ _ _ (aC (cd_min rfl) rfl T.z_min (by decide +kernel) (@ab _ _ _ _ _ _ (@am _ _ _ (aC bg rfl T.z_len (by decide +kernel) (@ab _ _ _ _ _ _ (ac 0) ae (by kernel_rfl)))) (@ab _ _ _ _ _ _ af ae (by kernel_rfl)) (by kernel_rfl)))) ae (by kernel_rfl)) (by kernel_rfl)))) (fz (i:=5) sc_law.nd rfl (by walk_at "o")) (aj (bD (pb_not (bL (ax (ok__law_right T) T.x__law_right hr (@ab _ _ _ _ _ _ (ac 1) (@ab _ _ _ _ _ _ (@am _ _ _ (ax (ok__law_wish T) T.x__law_wish hr (@ab _ _ _ _ _ _ (ax (cq T) T.x__law_begun hr (@ab _ _ _ _ _ _ (ac 0) (@ab _ _ _ _ _ _ (ac 5) ae (by kernel_rfl)) (by kernel_rfl))) (@ab _ _ _ _ _ _ (ac 1) (@ab _ _ _ _ _ _ (ac 4) ae (by kernel_rfl)) (by kernel_rfl)) (by kernel_rfl)))) (@ab _ _ _ _ _ _ (ac 2) ae (by kernel_rfl)) (by kernel_rfl)) (by kernel_rfl))))) (aj (ar pl_bl)) aH))) (aj (ar (ax (ok__law_best_right T) T.x__law_best_right hr (@ab _ _ _ _ _ _ (ac 1) (@ab _ _ _ _ _ _ (ac 2) ae (by kernel_rfl)) (by kernel_rfl)))))))))))
  sat_law
end
def adF (i:Nat):Addr:=([21,28,35,42,49,56,63,134,141,148,155,162,169,176,183,190,197,202,214,219,207,226,233,240,247,252,257,262,269,274,279,286,293,298,305,312,319,326,362,357,352,345,331,338,384,377,372,367,389,394,401,408,415,434,422,429,441,448,455,460,479,498,472,491,465,486,503]:List Addr).getD i 0
abbrev md0:Value:=(.str "ringloads.divisors" 187)
abbrev md1:Value:=(.str "ringloads.names" 206)
abbrev md2:Value:=(.str "ringloads.ratios" 331)
abbrev md3:Value:=(.str "ringloads.cuts" 394)
abbrev md4:Value:=(.str "ringloads.units" 427)
abbrev md5:Value:=(.str "ringloads.ways" 450)
abbrev md6:Value:=(.str "ringloads.loads" 484)
abbrev md7:Value:=(.str "ringloads.sendings" 526)
abbrev md8:Value:=(.str "ringloads.wishes" 557)
abbrev md9:Value:=(.str "ringloads.trees" 594)
abbrev md10:Value:=(.str "ringloads.search" 659)
abbrev md11:Value:=(.str "ringloads.best" 693)
abbrev md12:Value:=(.str "law_ringloads_k92_whole_all_ways_walked" 715)
def fdF (i:Nat):FuncData:=[fdM "greatest_shared" cz md0 20,fdM "least_common" eA md0 27,fdM "is_whole" s_is_whole md1 34,fdM "is_number_below" cA md1 41,fdM "are_two_wholes" cX md1 48,fdM "is_ratio" s_is_ratio md1 55,fdM "is_told_as" s_is_told_as md1 62,fdM "lowest" s_lowest md2 133,fdM "plus" s_plus md2 140,fdM "minus" s_minus md2 147,fdM "times" s_times md2 154,fdM "over" s_over md2 161,fdM "under" s_under md2 168,fdM "sum_of" s_sum_of md2 175,fdM "is_cut" s_is_cut md3 182,fdM "is_within" s_is_within md3 189,fdM "parts_places" eB md3 196,fdM "all_cuts" s_all_cuts md3 201,fdM "common_bottom" dB md4 213,fdM "in_units" s_in_units md4 218,fdM "weighed" s_weighed md4 206,fdM "is_way" s_is_way md5 225,fdM "other_way" s_other_way md5 232,fdM "is_over" s_is_over md5 239,fdM "sent_over" s_sent_over md6 246,fdM "load_of" s_load_of md6 251,fdM "loads_of" s_loads_of md6 256,fdM "strains_of" dY md6 261,fdM "top_of" s_top_of md6 268,fdM "are_ways" s_are_ways md7 273,fdM "sent_by" s_sent_by md7 278,fdM "top_by" s_top_by md7 285,fdM "are_ways_with_top" b7 md7 292,fdM "turned_by" fH md8 297,fdM "is_too_much" fI md8 304,fdM "are_too_many" eD md8 311,fdM "broken_wish" fJ md8 318,fdM "is_split" s_is_split md9 325,fdM "times_over" dZ md9 361,fdM "is_too_full" de md9 356,fdM "can_stand" s_can_stand md9 351,fdM "branch_of" s_branch_of md9 344,fdM "look_at_tree" cK md9 330,fdM "is_tree" s_is_tree md9 337,fdM "reason_against" cY md10 383,fdM "searched" s_searched md10 376,fdM "bounds_of" dC md10 371,fdM "ways_for" s_ways_for md10 366,fdM "wish_for_less" cg md11 388,fdM "best_ways" fK md11 393,fdM "lets_best" s_lets_best md11 400,fdM "_law_begun" s__law_begun md12 407,fdM "_law_take" s__law_take md12 414,fdM "_law_names" cR md12 433,fdM "_law_low" s__law_low md12 421,fdM "_law_amount" fL md12 428,fdM "_law_rooms" s__law_rooms md12 440,fdM "_law_ends" s__law_ends md12 447,fdM "_law_ring" s__law_ring md12 454,fdM "_law_all_ways" bF md12 459,fdM "_law_under" s__law_under md12 478,fdM "_law_best_right" cB md12 497,fdM "_law_lets" s__law_lets md12 471,fdM "_law_right" d5 md12 490,fdM "_law_ways" fM md12 464,fdM "_law_wish" s__law_wish md12 485,fdM "law" s_law md12 502].getD i (fdM "law" s_law md0 0)
set_option maxHeartbeats 0 in
theorem tx {Pm:Params} {h:Heap} {mg:Str→Option Value} (X:(Hd.Kf Pm).In h) (G:h.Ns mainGlobals mg):Tx (Hd.Kf Pm) mg adF fdF where
 x_greatest_shared:=FX.mk' X G (a:=21) (c:=20) (md:=md0) (by kernel_rfl) (by kernel_rfl) (by kernel_rfl) (by kernel_rfl) fun _ _ _ _ _ _ u l=>match u,l with | [_,_],_=>rfl
 x_least_common:=FX.mk' X G (a:=28) (c:=27) (md:=md0) (by kernel_rfl) (by kernel_rfl) (by kernel_rfl) (by kernel_rfl) fun _ _ _ _ _ _ u l=>match u,l with | [_,_],_=>rfl
 x_is_whole:=FX.mk' X G (a:=35) (c:=34) (md:=md1) (by kernel_rfl) (by kernel_rfl) (by kernel_rfl) (by kernel_rfl) fun _ _ _ _ _ _ u l=>match u,l with | [_],_=>rfl
 x_is_number_below:=FX.mk' X G (a:=42) (c:=41) (md:=md1) (by kernel_rfl) (by kernel_rfl) (by kernel_rfl) (by kernel_rfl) fun _ _ _ _ _ _ u l=>match u,l with | [_,_],_=>rfl
 x_are_two_wholes:=FX.mk' X G (a:=49) (c:=48) (md:=md1) (by kernel_rfl) (by kernel_rfl) (by kernel_rfl) (by kernel_rfl) fun _ _ _ _ _ _ u l=>match u,l with | [_],_=>rfl
 x_is_ratio:=FX.mk' X G (a:=56) (c:=55) (md:=md1) (by kernel_rfl) (by kernel_rfl) (by kernel_rfl) (by kernel_rfl) fun _ _ _ _ _ _ u l=>match u,l with | [_],_=>rfl
 x_is_told_as:=FX.mk' X G (a:=63) (c:=62) (md:=md1) (by kernel_rfl) (by kernel_rfl) (by kernel_rfl) (by kernel_rfl) fun _ _ _ _ _ _ u l=>match u,l with | [_,_,_],_=>rfl
 x_lowest:=FX.mk' X G (a:=134) (c:=133) (md:=md2) (by kernel_rfl) (by kernel_rfl) (by kernel_rfl) (by kernel_rfl) fun _ _ _ _ _ _ u l=>match u,l with | [_,_],_=>rfl
 x_plus:=FX.mk' X G (a:=141) (c:=140) (md:=md2) (by kernel_rfl) (by kernel_rfl) (by kernel_rfl) (by kernel_rfl) fun _ _ _ _ _ _ u l=>match u,l with | [_,_],_=>rfl
 x_minus:=FX.mk' X G (a:=148) (c:=147) (md:=md2) (by kernel_rfl) (by kernel_rfl) (by kernel_rfl) (by kernel_rfl) fun _ _ _ _ _ _ u l=>match u,l with | [_,_],_=>rfl
 x_times:=FX.mk' X G (a:=155) (c:=154) (md:=md2) (by kernel_rfl) (by kernel_rfl) (by kernel_rfl) (by kernel_rfl) fun _ _ _ _ _ _ u l=>match u,l with | [_,_],_=>rfl
 x_over:=FX.mk' X G (a:=162) (c:=161) (md:=md2) (by kernel_rfl) (by kernel_rfl) (by kernel_rfl) (by kernel_rfl) fun _ _ _ _ _ _ u l=>match u,l with | [_,_],_=>rfl
 x_under:=FX.mk' X G (a:=169) (c:=168) (md:=md2) (by kernel_rfl) (by kernel_rfl) (by kernel_rfl) (by kernel_rfl) fun _ _ _ _ _ _ u l=>match u,l with | [_,_],_=>rfl
 x_sum_of:=FX.mk' X G (a:=176) (c:=175) (md:=md2) (by kernel_rfl) (by kernel_rfl) (by kernel_rfl) (by kernel_rfl) fun _ _ _ _ _ _ u l=>match u,l with | [_],_=>rfl
 x_is_cut:=FX.mk' X G (a:=183) (c:=182) (md:=md3) (by kernel_rfl) (by kernel_rfl) (by kernel_rfl) (by kernel_rfl) fun _ _ _ _ _ _ u l=>match u,l with | [_,_],_=>rfl
 x_is_within:=FX.mk' X G (a:=190) (c:=189) (md:=md3) (by kernel_rfl) (by kernel_rfl) (by kernel_rfl) (by kernel_rfl) fun _ _ _ _ _ _ u l=>match u,l with | [_,_],_=>rfl
 x_parts_places:=FX.mk' X G (a:=197) (c:=196) (md:=md3) (by kernel_rfl) (by kernel_rfl) (by kernel_rfl) (by kernel_rfl) fun _ _ _ _ _ _ u l=>match u,l with | [_,_,_],_=>rfl
 x_all_cuts:=FX.mk' X G (a:=202) (c:=201) (md:=md3) (by kernel_rfl) (by kernel_rfl) (by kernel_rfl) (by kernel_rfl) fun _ _ _ _ _ _ u l=>match u,l with | [_],_=>rfl
 x_common_bottom:=FX.mk' X G (a:=214) (c:=213) (md:=md4) (by kernel_rfl) (by kernel_rfl) (by kernel_rfl) (by kernel_rfl) fun _ _ _ _ _ _ u l=>match u,l with | [_],_=>rfl
 x_in_units:=FX.mk' X G (a:=219) (c:=218) (md:=md4) (by kernel_rfl) (by kernel_rfl) (by kernel_rfl) (by kernel_rfl) fun _ _ _ _ _ _ u l=>match u,l with | [_,_],_=>rfl
 x_weighed:=FX.mk' X G (a:=207) (c:=206) (md:=md4) (by kernel_rfl) (by kernel_rfl) (by kernel_rfl) (by kernel_rfl) fun _ _ _ _ _ _ u l=>match u,l with | [_,_],_=>rfl
 x_is_way:=FX.mk' X G (a:=226) (c:=225) (md:=md5) (by kernel_rfl) (by kernel_rfl) (by kernel_rfl) (by kernel_rfl) fun _ _ _ _ _ _ u l=>match u,l with | [_],_=>rfl
 x_other_way:=FX.mk' X G (a:=233) (c:=232) (md:=md5) (by kernel_rfl) (by kernel_rfl) (by kernel_rfl) (by kernel_rfl) fun _ _ _ _ _ _ u l=>match u,l with | [_],_=>rfl
 x_is_over:=FX.mk' X G (a:=240) (c:=239) (md:=md5) (by kernel_rfl) (by kernel_rfl) (by kernel_rfl) (by kernel_rfl) fun _ _ _ _ _ _ u l=>match u,l with | [_,_,_,_],_=>rfl
 x_sent_over:=FX.mk' X G (a:=247) (c:=246) (md:=md6) (by kernel_rfl) (by kernel_rfl) (by kernel_rfl) (by kernel_rfl) fun _ _ _ _ _ _ u l=>match u,l with | [_,_,_,_],_=>rfl
 x_load_of:=FX.mk' X G (a:=252) (c:=251) (md:=md6) (by kernel_rfl) (by kernel_rfl) (by kernel_rfl) (by kernel_rfl) fun _ _ _ _ _ _ u l=>match u,l with | [_,_,_],_=>rfl
 x_loads_of:=FX.mk' X G (a:=257) (c:=256) (md:=md6) (by kernel_rfl) (by kernel_rfl) (by kernel_rfl) (by kernel_rfl) fun _ _ _ _ _ _ u l=>match u,l with | [_,_],_=>rfl
 x_strains_of:=FX.mk' X G (a:=262) (c:=261) (md:=md6) (by kernel_rfl) (by kernel_rfl) (by kernel_rfl) (by kernel_rfl) fun _ _ _ _ _ _ u l=>match u,l with | [_,_],_=>rfl
 x_top_of:=FX.mk' X G (a:=269) (c:=268) (md:=md6) (by kernel_rfl) (by kernel_rfl) (by kernel_rfl) (by kernel_rfl) fun _ _ _ _ _ _ u l=>match u,l with | [_,_],_=>rfl
 x_are_ways:=FX.mk' X G (a:=274) (c:=273) (md:=md7) (by kernel_rfl) (by kernel_rfl) (by kernel_rfl) (by kernel_rfl) fun _ _ _ _ _ _ u l=>match u,l with | [_,_],_=>rfl
 x_sent_by:=FX.mk' X G (a:=279) (c:=278) (md:=md7) (by kernel_rfl) (by kernel_rfl) (by kernel_rfl) (by kernel_rfl) fun _ _ _ _ _ _ u l=>match u,l with | [_,_],_=>rfl
 x_top_by:=FX.mk' X G (a:=286) (c:=285) (md:=md7) (by kernel_rfl) (by kernel_rfl) (by kernel_rfl) (by kernel_rfl) fun _ _ _ _ _ _ u l=>match u,l with | [_,_],_=>rfl
 x_are_ways_with_top:=FX.mk' X G (a:=293) (c:=292) (md:=md7) (by kernel_rfl) (by kernel_rfl) (by kernel_rfl) (by kernel_rfl) fun _ _ _ _ _ _ u l=>match u,l with | [_,_,_],_=>rfl
 x_turned_by:=FX.mk' X G (a:=298) (c:=297) (md:=md8) (by kernel_rfl) (by kernel_rfl) (by kernel_rfl) (by kernel_rfl) fun _ _ _ _ _ _ u l=>match u,l with | [_,_],_=>rfl
 x_is_too_much:=FX.mk' X G (a:=305) (c:=304) (md:=md8) (by kernel_rfl) (by kernel_rfl) (by kernel_rfl) (by kernel_rfl) fun _ _ _ _ _ _ u l=>match u,l with | [_,_,_],_=>rfl
 x_are_too_many:=FX.mk' X G (a:=312) (c:=311) (md:=md8) (by kernel_rfl) (by kernel_rfl) (by kernel_rfl) (by kernel_rfl) fun _ _ _ _ _ _ u l=>match u,l with | [_,_],_=>rfl
 x_broken_wish:=FX.mk' X G (a:=319) (c:=318) (md:=md8) (by kernel_rfl) (by kernel_rfl) (by kernel_rfl) (by kernel_rfl) fun _ _ _ _ _ _ u l=>match u,l with | [_,_,_],_=>rfl
 x_is_split:=FX.mk' X G (a:=326) (c:=325) (md:=md9) (by kernel_rfl) (by kernel_rfl) (by kernel_rfl) (by kernel_rfl) fun _ _ _ _ _ _ u l=>match u,l with | [_],_=>rfl
 x_times_over:=FX.mk' X G (a:=362) (c:=361) (md:=md9) (by kernel_rfl) (by kernel_rfl) (by kernel_rfl) (by kernel_rfl) fun _ _ _ _ _ _ u l=>match u,l with | [_,_,_,_],_=>rfl
 x_is_too_full:=FX.mk' X G (a:=357) (c:=356) (md:=md9) (by kernel_rfl) (by kernel_rfl) (by kernel_rfl) (by kernel_rfl) fun _ _ _ _ _ _ u l=>match u,l with | [_,_,_,_,_],_=>rfl
 x_can_stand:=FX.mk' X G (a:=352) (c:=351) (md:=md9) (by kernel_rfl) (by kernel_rfl) (by kernel_rfl) (by kernel_rfl) fun _ _ _ _ _ _ u l=>match u,l with | [_,_,_,_,_],_=>rfl
 x_branch_of:=FX.mk' X G (a:=345) (c:=344) (md:=md9) (by kernel_rfl) (by kernel_rfl) (by kernel_rfl) (by kernel_rfl) fun _ _ _ _ _ _ u l=>match u,l with | [_,_],_=>rfl
 x_look_at_tree:=FX.mk' X G (a:=331) (c:=330) (md:=md9) (by kernel_rfl) (by kernel_rfl) (by kernel_rfl) (by kernel_rfl) fun _ _ _ _ _ _ u l=>match u,l with | [_,_,_],_=>rfl
 x_is_tree:=FX.mk' X G (a:=338) (c:=337) (md:=md9) (by kernel_rfl) (by kernel_rfl) (by kernel_rfl) (by kernel_rfl) fun _ _ _ _ _ _ u l=>match u,l with | [_,_,_],_=>rfl
 x_reason_against:=FX.mk' X G (a:=384) (c:=383) (md:=md10) (by kernel_rfl) (by kernel_rfl) (by kernel_rfl) (by kernel_rfl) fun _ _ _ _ _ _ u l=>match u,l with | [_,_,_,_],_=>rfl
 x_searched:=FX.mk' X G (a:=377) (c:=376) (md:=md10) (by kernel_rfl) (by kernel_rfl) (by kernel_rfl) (by kernel_rfl) fun _ _ _ _ _ _ u l=>match u,l with | [_,_,_,_,_,_],_=>rfl
 x_bounds_of:=FX.mk' X G (a:=372) (c:=371) (md:=md10) (by kernel_rfl) (by kernel_rfl) (by kernel_rfl) (by kernel_rfl) fun _ _ _ _ _ _ u l=>match u,l with | [_,_],_=>rfl
 x_ways_for:=FX.mk' X G (a:=367) (c:=366) (md:=md10) (by kernel_rfl) (by kernel_rfl) (by kernel_rfl) (by kernel_rfl) fun _ _ _ _ _ _ u l=>match u,l with | [_,_],_=>rfl
 x_wish_for_less:=FX.mk' X G (a:=389) (c:=388) (md:=md11) (by kernel_rfl) (by kernel_rfl) (by kernel_rfl) (by kernel_rfl) fun _ _ _ _ _ _ u l=>match u,l with | [_,_],_=>rfl
 x_best_ways:=FX.mk' X G (a:=394) (c:=393) (md:=md11) (by kernel_rfl) (by kernel_rfl) (by kernel_rfl) (by kernel_rfl) fun _ _ _ _ _ _ u l=>match u,l with | [_],_=>rfl
 x_lets_best:=FX.mk' X G (a:=401) (c:=400) (md:=md11) (by kernel_rfl) (by kernel_rfl) (by kernel_rfl) (by kernel_rfl) fun _ _ _ _ _ _ u l=>match u,l with | [_,_],_=>rfl
 x__law_begun:=FX.mk' X G (a:=408) (c:=407) (md:=md12) (by kernel_rfl) (by kernel_rfl) (by kernel_rfl) (by kernel_rfl) fun _ _ _ _ _ _ u l=>match u,l with | [_,_],_=>rfl
 x__law_take:=FX.mk' X G (a:=415) (c:=414) (md:=md12) (by kernel_rfl) (by kernel_rfl) (by kernel_rfl) (by kernel_rfl) fun _ _ _ _ _ _ u l=>match u,l with | [_,_],_=>rfl
 x__law_names:=FX.mk' X G (a:=434) (c:=433) (md:=md12) (by kernel_rfl) (by kernel_rfl) (by kernel_rfl) (by kernel_rfl) fun _ _ _ _ _ _ u l=>match u,l with | [_,_],_=>rfl
 x__law_low:=FX.mk' X G (a:=422) (c:=421) (md:=md12) (by kernel_rfl) (by kernel_rfl) (by kernel_rfl) (by kernel_rfl) fun _ _ _ _ _ _ u l=>match u,l with | [_,_],_=>rfl
 x__law_amount:=FX.mk' X G (a:=429) (c:=428) (md:=md12) (by kernel_rfl) (by kernel_rfl) (by kernel_rfl) (by kernel_rfl) fun _ _ _ _ _ _ u l=>match u,l with | [_,_,_],_=>rfl
 x__law_rooms:=FX.mk' X G (a:=441) (c:=440) (md:=md12) (by kernel_rfl) (by kernel_rfl) (by kernel_rfl) (by kernel_rfl) fun _ _ _ _ _ _ u l=>match u,l with | [_,_,_],_=>rfl
 x__law_ends:=FX.mk' X G (a:=448) (c:=447) (md:=md12) (by kernel_rfl) (by kernel_rfl) (by kernel_rfl) (by kernel_rfl) fun _ _ _ _ _ _ u l=>match u,l with | [_,_,_,_],_=>rfl
 x__law_ring:=FX.mk' X G (a:=455) (c:=454) (md:=md12) (by kernel_rfl) (by kernel_rfl) (by kernel_rfl) (by kernel_rfl) fun _ _ _ _ _ _ u l=>match u,l with | [_,_,_,_],_=>rfl
 x__law_all_ways:=FX.mk' X G (a:=460) (c:=459) (md:=md12) (by kernel_rfl) (by kernel_rfl) (by kernel_rfl) (by kernel_rfl) fun _ _ _ _ _ _ u l=>match u,l with | [_],_=>rfl
 x__law_under:=FX.mk' X G (a:=479) (c:=478) (md:=md12) (by kernel_rfl) (by kernel_rfl) (by kernel_rfl) (by kernel_rfl) fun _ _ _ _ _ _ u l=>match u,l with | [_,_],_=>rfl
 x__law_best_right:=FX.mk' X G (a:=498) (c:=497) (md:=md12) (by kernel_rfl) (by kernel_rfl) (by kernel_rfl) (by kernel_rfl) fun _ _ _ _ _ _ u l=>match u,l with | [_,_],_=>rfl
 x__law_lets:=FX.mk' X G (a:=472) (c:=471) (md:=md12) (by kernel_rfl) (by kernel_rfl) (by kernel_rfl) (by kernel_rfl) fun _ _ _ _ _ _ u l=>match u,l with | [_,_,_],_=>rfl
 x__law_right:=FX.mk' X G (a:=491) (c:=490) (md:=md12) (by kernel_rfl) (by kernel_rfl) (by kernel_rfl) (by kernel_rfl) fun _ _ _ _ _ _ u l=>match u,l with | [_,_,_],_=>rfl
 x__law_ways:=FX.mk' X G (a:=465) (c:=464) (md:=md12) (by kernel_rfl) (by kernel_rfl) (by kernel_rfl) (by kernel_rfl) fun _ _ _ _ _ _ u l=>match u,l with | [_,_],_=>rfl
 x__law_wish:=FX.mk' X G (a:=486) (c:=485) (md:=md12) (by kernel_rfl) (by kernel_rfl) (by kernel_rfl) (by kernel_rfl) fun _ _ _ _ _ _ u l=>match u,l with | [_,_,_],_=>rfl
 x_law:=FX.mk' X G (a:=503) (c:=502) (md:=md12) (by kernel_rfl) (by kernel_rfl) (by kernel_rfl) (by kernel_rfl) fun _ _ _ _ _ _ u l=>match u,l with | [_],_=>rfl
 z_abs:=PySem.W.mg_none_of X G (by kernel_rfl)
 z_all:=PySem.W.mg_none_of X G (by kernel_rfl)
 z_bool:=PySem.W.mg_none_of X G (by kernel_rfl)
 z_enumerate:=PySem.W.mg_none_of X G (by kernel_rfl)
 z_int:=PySem.W.mg_none_of X G (by kernel_rfl)
 z_isinstance:=PySem.W.mg_none_of X G (by kernel_rfl)
 z_len:=PySem.W.mg_none_of X G (by kernel_rfl)
 z_list:=PySem.W.mg_none_of X G (by kernel_rfl)
 z_max:=PySem.W.mg_none_of X G (by kernel_rfl)
 z_min:=PySem.W.mg_none_of X G (by kernel_rfl)
 z_range:=PySem.W.mg_none_of X G (by kernel_rfl)
 z_reversed:=PySem.W.mg_none_of X G (by kernel_rfl)
 z_str:=PySem.W.mg_none_of X G (by kernel_rfl)
 z_sum:=PySem.W.mg_none_of X G (by kernel_rfl)
 z_tuple:=PySem.W.mg_none_of X G (by kernel_rfl)
 z_zip:=PySem.W.mg_none_of X G (by kernel_rfl)
 g_BACK:=globS_mk (PySem.W.mg_of X G (v:=(.str "back" 454)) (by kernel_rfl))
 g_CUT:=globS_mk (PySem.W.mg_of X G (v:=(.str "cut" 596)) (by kernel_rfl))
 g_MOST_SEARCHED:=globI_mk (PySem.W.mg_of X G (v:=(.int 7 661)) (by kernel_rfl))
 g_MOST_WALKED:=globI_mk (PySem.W.mg_of X G (v:=(.int 300 602)) (by kernel_rfl))
 g_NOUGHT:=globT_mk (PySem.W.mg_of X G (v:=.ref 127) (by kernel_rfl)) (show (Hd.Kf Pm).lookup 127=some (Obj.mk (.type "tuple") none (.seq #[(.int 0 333),(.int 1 334)] 0) #[]) by kernel_rfl) ⟨_,_,[L2.V.int 0,L2.V.int 1],_,rfl,rfl,rfl,by decide,(.cons ⟨_,rfl⟩ (.cons ⟨_,rfl⟩ .nil)),fun K H=>(.cons (.int _) (.cons (.int _) .nil))⟩
 g_ON:=globS_mk (PySem.W.mg_of X G (v:=(.str "on" 452)) (by kernel_rfl))
 g_SPLIT:=globS_mk (PySem.W.mg_of X G (v:=(.str "split" 600)) (by kernel_rfl))
 g_TURNED:=globS_mk (PySem.W.mg_of X G (v:=(.str "turned" 598)) (by kernel_rfl))
theorem walkF (w:World) (mg:Str→Option Value) (fa:Addr) (h:Heap) (X:(Hd.Kf w.params).In h) (G:h.Ns mainGlobals mg) (hmg:mg "law"=some (.ref fa)) :
  ∃ fd:FuncData,(∀ (s:Shared) (u:Value),BindsTo s fd ⟨[u],[]⟩ [("_law_script",u)])∧∀ base:Heap,(Hd.Kf w.params).In base→base.Ns mainGlobals mg→FnOk PySem.Challenge.pw_ringloads_k92_whole_all_ways_walked w (Hd.Kf w.params) mg base CX0 18 fa fd ["_law_script"] (spF (Hd.Kf w.params) 1 fs_law):=by
 have T:=tx X G
 have e:=hmg.symm.trans T.x_law.m
 cases e
 exact ⟨_,fun s v=>.of_eq rfl,fun base _ _=>ok_law T⟩
theorem walk {l:PySem.W.OpenLaw} {q:Program} {loose:List Str} {XP:(Str→Option Value)→Heap→Prop} {YP:World→Heap→Prop} {d:DefRec} {K:Params→PySem.W.Frag} (hn:l.most=some 63) (hdf:d.params.defaults=[])
  (hY:∀ (w:World) (h:Heap),YP w h→(K w.params).In h)
  (F:∀ (w:World) (mg:Str→Option Value) (fa:Addr) (h:Heap),(K w.params).In h→h.Ns mainGlobals mg→mg d.name=some (.ref fa) →
   ∃ fd:FuncData,(∀ (s:Shared) (u:Value),BindsTo s fd ⟨[u],[]⟩ [("_law_script",u)])∧∀ base:Heap,(K w.params).In base→base.Ns mainGlobals mg→FnOk l.prog w (K w.params) mg base CX0 18 fa fd ["_law_script"] (spF (K w.params) 1 fs_law)) :
  PySem.W.WalkO q loose XP YP l.row.toRowW d [] (fun f vs=>PySem.call f vs) :=
 L2.walk_of (n:=63) (k:=18) (x:="_law_script") (CX:=fun _=>CX0) (sp:=fun w=>spF (K w.params) 1 fs_law) hn (by decide) hdf ⟨rfl,by decide,by decide,rfl⟩ hY F (fun _ H a ns hl hO hS=>law_start hl hO hS (law_holds hl)) fun _ _ _ _ _ z=>z
end My
open PySem PySem.W PyProof.Rows
abbrev PySem.W.Fast.tw207883272955567830:PySem.Program:=PySem.Challenge.pw_ringloads_k92_whole_all_ways_walked
theorem PySem.W.Fast.te207883272955567830:PySem.Challenge.pw_ringloads_k92_whole_all_ways_walked=PySem.W.Fast.tw207883272955567830:=rfl
set_option maxRecDepth 100000 in
set_option maxHeartbeats 0 in
theorem PySem.Challenge.cw_ringloads_k92_whole_all_ways_walked_holds : PySem.Challenge.rw_ringloads_k92_whole_all_ways_walked.Holds := by
 w_on; o_law
 refine PySem.W.holds_open (q:=Hd.q) (loose:=Hd.loose) (Xt:=Hd.Xt) (XP:=XL Hd.q []) (Yf:=Hook.obs Hd.Hk) (Ya:=Hook.val Hd.Hk) (YP:=Hook.says Hd.Hk) (N:=_) Hd.left (Hook.of Hd.Hk) (Hook.keeps Hd.Hk) (fun s e=>xl_of s (Bool.and_eq_true_iff.mp e).1) XL.keeps (by rfl) (by rfl) (by rfl) (fun s e=>recFacts_of (Bool.and_eq_true_iff.mp e).2) (by rfl) (by assumption) (by decide +kernel) ⟨rfl,rfl,rfl,rfl,rfl,by decide +kernel⟩ ?hw ?hc
 case hw=>w_witness2
 case hc=>exact My.walk (l:=PySem.Challenge.rw_ringloads_k92_whole_all_ways_walked) (K:=Hd.Kf) rfl rfl (fun w h Y=>PySem.W.kIn_of Y) My.walkF
