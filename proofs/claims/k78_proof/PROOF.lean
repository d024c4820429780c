import PyProof.Rows.All
import Wide.All
import OpenK.AllK
import Wide.FinOn
import Lean
import PyProof.EqAt
import PyProof.EqKinds
import PyProof.TupleCall
import PyProof.ExcArgs
import KE.KSortKey
import KE.KIsAll
import PyProof.ExcInit
import PyProof.StationsW
import PyProof.NsDelKeeps
import PyProof.RulesAs
import PyProof.PassesOwn
import PyProof.ExcBaseAll.ValueError
import PyProof.InstStoreFacts
import PyProof.Rows.EqDataRows
import PyProof.ReprRoads
import PyProof.Rows.Range3
import PyProof.ConsumeWalk
import PyProof.FString5
import PyProof.ReprLen
import PyProof.Rows.TupAdd
import PyProof.Rows.RuleIs
import PyProof.ListNew
import KE.KRevIter
import PyProof.Rows.SeqMore2
import PyProof.ListRange
import KE.KEqDict
import PyProof.NeKinds
import PyProof.CallStr
import PyProof.ListMulAny
import PyProof.Rows.SetFrom
import PyProof.SetRoads
import KE.KSortTup
import PySem.Challenge.RW_ringloads_k78_trees_written
set_option Elab.async false
set_option linter.all false
set_option maxRecDepth 100000
set_option maxHeartbeats 0
theorem za {α:Sort _} {a b:α} (h:a=b:=by kernel_rfl):a=b:=h
theorem zb {p:Prop} [Decidable p] (h:decide p=true:=by decide +kernel):p:=of_decide_eq_true h
theorem zd {p:Prop} [Decidable p] (h:decide p=true:=by decide):p:=of_decide_eq_true h
theorem zZ{p:Prop}(h:p:=by omega):p:=h
theorem zY{p:Prop}(h:p:=by simp):p:=h
section
open PySem PySem.Spec PyProof.Rows PySem.W
theorem ag:type_of% @List.mem_cons_of_mem:=@List.mem_cons_of_mem
theorem ah:type_of% @List.getElem?_eq_some_iff:=@List.getElem?_eq_some_iff
theorem ai:type_of% @List.mem_cons_self:=@List.mem_cons_self
theorem aj:type_of% @List.getElem?_append_right:=@List.getElem?_append_right
theorem ak:type_of% @wpAny_bind:=@wpAny_bind
theorem ao:type_of% @Nat.le_refl:=@Nat.le_refl
theorem aq:type_of% @Nat.lt_of_lt_of_le:=@Nat.lt_of_lt_of_le
theorem ar:type_of% @List.mem_append_right:=@List.mem_append_right
theorem au:type_of% @List.mem_append_left:=@List.mem_append_left
theorem av:type_of% @Heap.get?_push_of_some:=@Heap.get?_push_of_some
theorem ay:type_of% @Heap.lt_size:=@Heap.lt_size
theorem az:type_of% @List.mem_cons:=@List.mem_cons
theorem aA:type_of% @List.getElem?_eq_getElem:=@List.getElem?_eq_getElem
theorem aB:type_of% @List.size_toArray:=@List.size_toArray
theorem aC:type_of% @List.length_append:=@List.length_append
theorem aD:type_of% @wpAny_pure:=@wpAny_pure
theorem aE:type_of% @List.getElem?_append_left:=@List.getElem?_append_left
theorem aF:type_of% @List.length_map:=@List.length_map
theorem aG:type_of% @Option.some.injEq:=@Option.some.injEq
theorem aH:type_of% @Bool.false_ne_true:=@Bool.false_ne_true
theorem aI:type_of% @Bool.and_eq_true:=@Bool.and_eq_true
theorem aJ:type_of% @List.nodup_append:=@List.nodup_append
theorem aK:type_of% @List.length_cons:=@List.length_cons
theorem aL:type_of% @List.map_cons:=@List.map_cons
theorem aM:type_of% @List.mem_append:=@List.mem_append
theorem aN:type_of% @wpAny_truthy_bool:=@wpAny_truthy_bool
theorem aO:type_of% @List.nodup_cons:=@List.nodup_cons
theorem aP:type_of% @List.mem_singleton:=@List.mem_singleton
theorem aQ:type_of% @Nat.add_sub_cancel_left:=@Nat.add_sub_cancel_left
theorem aS:type_of% @Heap.get?_push_size:=@Heap.get?_push_size
theorem aT:type_of% @List.lookup_cons:=@List.lookup_cons
theorem aU:type_of% @List.length_drop:=@List.length_drop
theorem aV:type_of% @List.append_assoc:=@List.append_assoc
theorem aW:type_of% @PySem.W.mg_none_of:=@PySem.W.mg_none_of
theorem aX:type_of% @List.perm_append_comm:=@List.perm_append_comm
theorem aY:type_of% @Nat.le_trans:=@Nat.le_trans
theorem aZ:type_of% @decide_eq_false:=@decide_eq_false
theorem a8:type_of% @Option.some.inj:=@Option.some.inj
theorem a9:type_of% @List.getElem?_set_self:=@List.getElem?_set_self
theorem ba:type_of% @exists_eq_left':=@exists_eq_left'
theorem bb:type_of% @List.all_eq_true:=@List.all_eq_true
theorem bc:type_of% @Nat.ne_of_lt:=@Nat.ne_of_lt
theorem bf:type_of% @List.zip_append:=@List.zip_append
theorem bg:type_of% @PySem.W.kia_one:=@PySem.W.kia_one
theorem bh:type_of% @List.not_mem_nil:=@List.not_mem_nil
theorem bj:type_of% @List.sublist_append_right:=@List.sublist_append_right
theorem bo:type_of% @List.getElem?_map:=@List.getElem?_map
theorem bp:type_of% @List.map_append:=@List.map_append
theorem bq:type_of% @List.length_nil:=@List.length_nil
theorem br:type_of% @List.getElem?_set_ne:=@List.getElem?_set_ne
theorem bt:type_of% @Nat.pow_le_pow_right:=@Nat.pow_le_pow_right
theorem bu:type_of% @List.mem_of_getElem?:=@List.mem_of_getElem?
theorem bz:type_of% @decide_eq_true:=@decide_eq_true
theorem bA:type_of% @List.take_of_length_le:=@List.take_of_length_le
theorem bB:type_of% @List.drop_eq_getElem_cons:=@List.drop_eq_getElem_cons
theorem bC:type_of% @Nat.lt_of_le_of_lt:=@Nat.lt_of_le_of_lt
theorem bD:type_of% @Bool.and_eq_true_iff:=@Bool.and_eq_true_iff
theorem bE:type_of% @decide_eq_true_eq:=@decide_eq_true_eq
theorem bF:type_of% @Int.eq_ofNat_of_zero_le:=@Int.eq_ofNat_of_zero_le
theorem bG:type_of% @List.append_nil:=@List.append_nil
theorem bH:type_of% @Array.length_toList:=@Array.length_toList
theorem bI:type_of% @PySem.mem_of_lookup:=@PySem.mem_of_lookup
theorem bJ:type_of% @Fast.te14364793385576792824:=@Fast.te14364793385576792824
theorem bK:type_of% @PySem.F.plainAttrs_str:=@PySem.F.plainAttrs_str
theorem bL:type_of% @PySem.W.mg_of:=@PySem.W.mg_of
theorem bM:type_of% @Int.natAbs_natCast:=@Int.natAbs_natCast
theorem bN:type_of% @List.zip_cons_cons:=@List.zip_cons_cons
theorem bO:type_of% @wpAny_passesOwn:=@wpAny_passesOwn
theorem bP:type_of% @PassesOwn.never:=@PassesOwn.never
theorem bQ:type_of% @List.Sublist.refl:=@List.Sublist.refl
theorem bR:type_of% @List.set_set:=@List.set_set
theorem bS:type_of% @of_decide_eq_true:=@of_decide_eq_true
theorem bT:type_of% @wpAny_mono:=@wpAny_mono
theorem bU:type_of% @List.any_cons:=@List.any_cons
theorem bV:type_of% @wpAny_holding:=@wpAny_holding
theorem bW:type_of% @Nat.lt_irrefl:=@Nat.lt_irrefl
theorem bX:type_of% @List.filterMap_cons:=@List.filterMap_cons
theorem bY:type_of% @Array.toList_append:=@Array.toList_append
theorem bZ:type_of% @List.length_take:=@List.length_take
theorem b7:type_of% @Nat.zero_le:=@Nat.zero_le
end
namespace L2
open PySem PySem.Spec PyProof.Rows
noncomputable abbrev Key:=Sum Int Str
noncomputable def keyIs:Key->Value->Bool
 |.inl k,v=>Value.isInt k v
 |.inr x,v=>Value.isStrOf x v
noncomputable def keyH(w:World):Key->Int
 |.inl k=>hashInt k
 |.inr x=>hashStr w x
theorem keyIs_shape:∀{k:Key}{v:Value},keyIs k v=true->(∃i t,k=Sum.inl i/\v=Value.int i t)∨(∃x t,k=Sum.inr x/\v=Value.str x t)
 | .inl i,v,h=>by obtain⟨t,e⟩:=Value.isInt_shape (k:=i) (v:=v) h;exact .inl ⟨i,t,rfl,e⟩
 | .inr x,v,h=>by obtain⟨t,e⟩:=Value.isStrOf_shape (x:=x) (v:=v) h;exact .inr ⟨x,t,rfl,e⟩
theorem keyIs_int(i:Int)(t:Tok):keyIs (.inl i) (.int i t)=true:=by simp[keyIs,Value.isInt]
theorem keyIs_str(x:Str)(t:Tok):keyIs (.inr x) (.str x t)=true:=by simp[keyIs,Value.isStrOf]
theorem key_ll(a b:Int):decide ((Sum.inl a:Key)=Sum.inl b)=(a == b):=by
 by_cases e:a=b
 . subst e;simp
 . have h:¬(Sum.inl a:Key)=Sum.inl b:=λq=>e (Sum.inl.inj q);rw[aZ h];exact(beq_eq_false_iff_ne.mpr e).symm
theorem key_rr(a b:Str):decide ((Sum.inr a:Key)=Sum.inr b)=decide (a=b):=by
 by_cases e:a=b
 . subst e;simp
 . have h:¬(Sum.inr a:Key)=Sum.inr b:=λq=>e (Sum.inr.inj q);rw[aZ h,aZ e]
theorem key_lr(a:Int)(b:Str):decide ((Sum.inl a:Key)=Sum.inr b)=false:=aZ (λq=>nomatch q)
theorem key_rl(a:Str)(b:Int):decide ((Sum.inr a:Key)=Sum.inl b)=false:=aZ (λq=>nomatch q)
noncomputable def mixKind(prog:Program)(w:World):PySem.KeyKind prog w Key where
 is:=keyIs
 hash:=keyH w
 inj:=λv a b ha hb=>by
  rcases keyIs_shape ha with⟨i,t,rfl,rfl⟩|⟨x,t,rfl,rfl⟩
  .
   rcases keyIs_shape hb with⟨j,u,rfl,e⟩|⟨y,u,rfl,e⟩
   . injection e with e1 _;rw[e1]
   . exact nomatch e
  .
   rcases keyIs_shape hb with⟨j,u,rfl,e⟩|⟨y,u,rfl,e⟩
   . exact nomatch e
   . injection e with e1 _;rw[e1]
 byValue:=λk v h=>by rcases keyIs_shape h with⟨i,t,rfl,rfl⟩|⟨x,t,rfl,rfl⟩<;>rfl
 pyHash:=λhv h=>by
  rcases keyIs_shape hv with⟨i,t,rfl,rfl⟩|⟨x,t,rfl,rfl⟩
  . exact wpAny_pyHash_int h
  . exact wpAny_pyHash_str h
 eqBool:=λhu hv h=>by
  rcases keyIs_shape hu with⟨i,t,rfl,rfl⟩|⟨x,t,rfl,rfl⟩
  .
   rcases keyIs_shape hv with⟨j,u,rfl,rfl⟩|⟨y,u,rfl,rfl⟩
   . rw[key_ll]at h;exact wpAny_eqBool_int h
   . rw[key_lr]at h;exact SeqAt.EqAt.int_str i t y u _ _ _ _ h
  .
   rcases keyIs_shape hv with⟨j,u,rfl,rfl⟩|⟨y,u,rfl,rfl⟩
   . rw[key_rl]at h;exact SeqAt.EqAt.str_int x t j u _ _ _ _ h
   . rw[key_rr]at h;exact wpAny_eqBool_str h
 «strs»:=λk x t v h=>by
  rcases keyIs_shape h with⟨i,u,rfl,e⟩|⟨y,u,rfl,e⟩
  . exact nomatch e
  . injection e with e1 _;subst e1;cases v<;>rfl
theorem mixKind_int(prog:Program)(w:World)(i:Int)(t:Tok):(mixKind prog w).is (.inl i) (.int i t)=true:=keyIs_int i t
theorem mixKind_str(prog:Program)(w:World)(x:Str)(t:Tok):(mixKind prog w).is (.inr x) (.str x t)=true:=keyIs_str x t
inductive V where
 |non|bl (b:Bool)|int (i:Int)|str (x:Str)|byt (b:Array UInt8)|flt (b:UInt64)|ref (a:Addr)|ty (n:String)
 deriving DecidableEq
def RelV:V->Value->Prop
 |.non,u=>u=Value.none
 |.bl b,u=>u=Value.bool b
 |.int i,u=>∃t,u=Value.int i t
 |.str x,u=>∃t,u=Value.str x t
 |.byt b,u=>∃t,u=Value.bytes b t
 |.flt b,u=>∃t,u=Value.float b t
 |.ref a,u=>u=Value.ref a
 |.ty n,u=>u=Value.type n
abbrev Vals:List V->List Value->Prop:=Paired RelV
theorem Vals.length{xs:List V}{us:List Value}(r:Vals xs us):xs.length=us.length:=Paired.length r
theorem Vals.get:∀{xs:List V}{us:List Value}{i:Nat}{x:V},Vals xs us->xs[i]?=some x->∃u,us[i]?=some u/\RelV x u
 |_,_,_,_,.nil,e=>by simp at e
 |_,_,0,_,.cons r _,e=>by simp at e;subst e;exact⟨_,rfl,r⟩
 | _,_,i+1,x,.cons _ t,e=>by obtain⟨u,h1,h2⟩:=Vals.get (i:=i) (x:=x) t (by simpa using e);exact⟨u,by simpa using h1,h2⟩
theorem Vals.set{x:V}{u:Value}(r:RelV x u):∀{xs:List V}{us:List Value}(i:Nat),Vals xs us->Vals (xs.set i x) (us.set i u)
 |_,_,_,.nil=>.nil
 |_,_,0,.cons _ t=>.cons r t
 |_,_,i+1,.cons q t=>.cons q (Vals.set r i t)
theorem Vals.append:∀{xs ys:List V}{us ws:List Value},Vals xs us->Vals ys ws->Vals (xs++ys) (us++ws)
 |_,_,_,_,.nil,s=>s
 |_,_,_,_,.cons r t,s=>.cons r (Vals.append t s)
theorem Vals.take:∀{xs:List V}{us:List Value}(n:Nat),Vals xs us->Vals (xs.take n) (us.take n)
 |_,_,0,_=>.nil
 |_,_,_+1,.nil=>.nil
 |_,_,n+1,.cons r t=>.cons r (Vals.take n t)
theorem Vals.drop:∀{xs:List V}{us:List Value}(n:Nat),Vals xs us->Vals (xs.drop n) (us.drop n)
 |_,_,0,r=>r
 |_,_,_+1,.nil=>.nil
 |_,_,n+1,.cons _ t=>Vals.drop n t
def RelO:Option V->Option Value->Prop
 |some v,some u=>RelV v u
 |none,none=>True
 |_,_=>False
def KV{κ:Type}:List (κ×V)->List (κ×Value)->Prop:=Paired λ(p:κ×V) (q:κ×Value)=>p.1=q.1/\RelV p.2 q.2
noncomputable def kV:Key->V
 |.inl i=>.int i
 |.inr x=>.str x
inductive HO where
 |lst (xs:List V)
 |tup (xs:List V)
 |dK (kvs:List (Key×V))|dT (kvs:List (List Key×V))
 |set (S:Int->Bool) (n:Nat)
 |ins (C dx:Addr) (fs:List (Str×V))
 |own (x:Addr)
 |xd (fs:List (Str×V))
 |met (f x:Addr)
 |rng (lo hi:Int)
 |frz (o:Obj) (u:HO)
 |tbl (q:Str)
 |ext (φ:Heap->Prop)
noncomputable abbrev Hp:=Addr->Option HO
noncomputable def upd(H:Hp)(a:Addr)(o:HO):Hp:=λb=>if b=a then some o else H b
theorem upd_same{H:Hp}{a:Addr}{o:HO}:upd H a o a=some o:=by unfold upd;rw[if_pos rfl]
theorem upd_ne{H:Hp}{a b:Addr}{o:HO}(h:b≠a):upd H a o b=H b:=by unfold upd;rw[if_neg h]
theorem ne_of_none{H:Hp}{a b:Addr}{o:HO}(h:H a=some o)(h':H b=none):a≠b:=by intro e;subst e;rw[h]at h';cases h'
def CodeOb(oc:Obj)(q:Str):Prop:=∃vs t,oc.data=.fields vs/\vs[1]?=some (.str q t)
section
variable(P:Program)(w:World)
def ObjOk(H:Hp)(h:Heap)(a:Addr):HO->Prop
 |.lst xs=>xs.length<=sizeLine/\∃(its:List Value)(n:Nat),Vals xs its/\h.get? a=some {cls:=.type "list",data:=.seq its.toArray n}
 |.tup xs=>xs.length<=sizeLine/\∃its:List Value,Vals xs its/\IsTup h a its.toArray
 |.dK kvs=>kvs.length<=sizeLine/\(a == sysModules)=false/\∃vs,KV kvs vs/\h.DictOf (mixKind P w) a vs
 | .dT kvs=>kvs.length<=sizeLine/\(a == sysModules)=false/\∃xs:List (List Key×Addr×Value),
   Paired (λ(p:List Key×V) (q:List Key×Addr×Value)=>p.1=q.1/\H q.2.1=some (.tup (p.1.map kV))/\RelV p.2 q.2.2) kvs xs /\
   ∃o es ep,h.get? a=some o/\o.ExactDict/\o.data=.dict es ep/\es.toList=xs.map (entryOfKey (tupleKind (mixKind P w)))/\(xs.map (·.1)).Nodup
 |.set S n=>h.SetOf (intKind P w) a S n
 | .ins C dx fs=>H dx=some (.own a)/\fs.length<=1000/\dx≠a/\h.get? a=some (PySem.W.instObj C dx) /\
   ∃mA,h.Ns1 dx mA/\(∀f,RelO (fs.lookup f) (mA f))/\PySem.Within mA (fs.map (·.1))
 |.own _=>∃o,h.get? a=some o
 |.xd fs=>∃mA,h.Ns1 a mA/\∀f,RelO (fs.lookup f) (mA f)
 |.rng lo hi=>∃ t u v,h.get? a=some {cls:=.type "range",data:=.fields #[.int lo t,.int hi u,.int 1 v] }
 |.frz o u=>h.get? a=some o/\ObjOk H h a u
 |.tbl q=>∃ps:Array Value,h.get? a=some {cls:=.none,data:=.fields ps}/\TriplesOk ps.toList/\∀pos cv,codeAmong pos ps.toList=some cv->∃c' oc,cv=.ref c'/\H c'=some (.frz oc (.own c'))/\CodeOb oc q
 |.met f x=>h.get? a=some (PySem.W.methodObj (.ref f) (.ref x))
 |.ext φ=>φ h/\(∃o,h.get? a=some o)/\∀h1 h2:Heap,φ h1->(∀o,h1.get? a=some o->h2.get? a=some o)->φ h2
def HOk(H:Hp)(h:Heap):Prop:=∀a o,H a=some o->ObjOk P w H h a o
end
section
variable{P:Program}{w:World}{H H':Hp}{h h':Heap}{a:Addr}{o:HO}
theorem ObjOk.lt(x:ObjOk P w H h a o):a<h.objs.size:=by
 cases o with
 |lst xs=>obtain⟨_,_,_,_,e⟩:=x;exact ay e
 |tup xs=>obtain⟨_,_,_,p⟩:=x;exact p.lt
 |dK kvs=>obtain⟨_,_,_,_,o,_,_,e,_⟩:=x;exact ay e
 |dT kvs=>obtain⟨_,_,_,_,o,_,_,e,_⟩:=x;exact ay e
 |set S n=>obtain⟨o,_,_,_,e,_⟩:=x;exact ay e
 |ins C dx fs=>obtain⟨_,_,_,e,_⟩:=x;exact ay e
 |own y=>obtain⟨_,e⟩:=x;exact ay e
 |xd fs=>obtain⟨_,⟨_,_,_,e,_⟩,_⟩:=x;exact ay e
 |rng lo hi=>obtain⟨_,_,_,e⟩:=x;exact ay e
 |frz ob u=>obtain⟨e,_⟩:=x;exact ay e
 |tbl q=>obtain⟨_,e,_⟩:=x;exact ay e
 |met f y=>exact ay (show h.get? a=some _ from x)
 |ext φ=>obtain⟨_,⟨_,e⟩,_⟩:=x;exact ay e
theorem Paired.mapP{α β:Type}{F G:α->β->Prop}:∀{l₁:List α}{l₂:List β},Paired F l₁ l₂->(∀a b,F a b->G a b)->Paired G l₁ l₂
 |_,_,.nil,_=>.nil
 |_,_,.cons r t,f=>.cons (f _ _ r) (Paired.mapP t f)
theorem ObjOk.stay(x:ObjOk P w H h a o)(k:∀b u,(b=a∨H b=some (.own a))->h.get? b=some u->h'.get? b=some u)
  (ho:∀b,H b=some (.own a)->H' b=some (.own a)) (ht:∀b xs,H b=some (.tup xs)->H' b=some (.tup xs)) (hf:∀b o q,CodeOb o q->H b=some (.frz o (.own b))->H' b=some (.frz o (.own b))):ObjOk P w H' h' a o:=by
 induction o with
 |lst xs=>obtain⟨z,its,n,r,e⟩:=x;exact⟨z,its,n,r,k _ _ (.inl rfl) e⟩
 |tup xs=>obtain⟨z,its,r,ob,e,c⟩:=x;exact⟨z,its,r,ob,k _ _ (.inl rfl) e,c⟩
 |dK kvs=>obtain⟨z,y,vs,r,ob,es,ep,e,c⟩:=x;exact⟨z,y,vs,r,ob,es,ep,k _ _ (.inl rfl) e,c⟩
 | dT kvs =>
  obtain⟨z,y,xs,r,ob,es,ep,e,c⟩:=x;exact⟨z,y,xs,Paired.mapP r λp q z=>⟨z.1,ht _ _ z.2.1,z.2.2⟩,ob,es,ep,k _ _ (.inl rfl) e,c⟩
 |set S n=>obtain⟨ob,es,ep,t,e,c⟩:=x;exact⟨ob,es,ep,t,k _ _ (.inl rfl) e,c⟩
 | ins C dx fs =>
  obtain⟨d,z,ne,e,mA,⟨od,es,ep,e2,c⟩,r⟩:=x;exact⟨ho _ d,z,ne,k _ _ (.inl rfl) e,mA,⟨od,es,ep,k _ _ (.inr d) e2,c⟩,r⟩
 |own y=>obtain⟨ob,e⟩:=x;exact⟨ob,k _ _ (.inl rfl) e⟩
 |xd fs=>obtain⟨mA,⟨od,es,ep,e,c⟩,r⟩:=x;exact⟨mA,⟨od,es,ep,k _ _ (.inl rfl) e,c⟩,r⟩
 |rng lo hi=>obtain⟨t,u,v,e⟩:=x;exact⟨t,u,v,k _ _ (.inl rfl) e⟩
 |frz ob u ih=>obtain⟨e,q⟩:=x;exact⟨k _ _ (.inl rfl) e,ih q⟩
 | tbl q =>
  obtain⟨ps,e,tr,m⟩:=x
  exact⟨ps,k a _ (.inl rfl) e,tr,λpos cv z=>let ⟨c',oc,a1,a2,a3⟩:=m pos cv z;⟨c',oc,a1,hf _ _ _ a3 a2,a3⟩⟩
 | met f y =>
  have e:h.get? a=some (PySem.W.methodObj (.ref f) (.ref y)):=x;show h'.get? a=some (PySem.W.methodObj (.ref f) (.ref y));exact k a _ (.inl rfl) e
 |ext φ=>obtain⟨p,⟨o,e⟩,st⟩:=x;exact⟨st _ _ p λo q=>k _ _ (.inl rfl) q,⟨o,k _ _ (.inl rfl) e⟩,st⟩
theorem HOk.lt(x:HOk P w H h)(e:H a=some o):a<h.objs.size:=(x a o e).lt
theorem HOk.fresh(x:HOk P w H h)(e:h.objs.size<=a):H a=none:=by
 cases q:H a with
 |none=>rfl
 |some u=>exact absurd (aq (x.lt q) e) (bW _)
theorem HOk.kept(x:HOk P w H h)(k:∀b u,h.get? b=some u->h'.get? b=some u):HOk P w H h':=λa o e =>
 (x a o e).stay (λb u _ q=>k b u q) (λ_ q=>q) (λ_ _ q=>q) λ_ _ _ _ q=>q
theorem HOk.laid(x:HOk P w H h)(k:∀b u,h.get? b=some u->h'.get? b=some u)(hp:h.objs.size<=a)(new:ObjOk P w (upd H a o) h' a o):HOk P w (upd H a o) h':=λb u e=>by
 have hn:=x.fresh hp;by_cases hb:b=a
 . subst hb;rw[upd_same]at e;cases e;exact new
 . rw[upd_ne hb]at e;exact(x b u e).stay (λc v _ q=>k c v q) (λc q=>by rw[upd_ne (ne_of_none q hn)];exact q) (λc xs q=>by rw[upd_ne (ne_of_none q hn)];exact q) λc ob _ _ q=>by rw[upd_ne (ne_of_none q hn)];exact q
end
def Rd(H:Hp)(a:Addr)(u:HO):Prop:=H a=some u∨∃o,H a=some (.frz o u)
theorem Rd.ok{P:Program}{w:World}{H:Hp}{h:Heap}{a:Addr}{u:HO}(r:Rd H a u)(x:HOk P w H h):ObjOk P w H h a u:=by
 rcases r with r|⟨o,r⟩
 . exact x a u r
 . obtain⟨_,q⟩:=x a _ r;exact q
def Mut:Option HO->Prop
 |some (.lst _)=>True
 |some (.dK _)=>True
 |some (.dT _)=>True
 |some (.set _ _)=>True
 |some (.ins _ _ _)=>True
 |some (.ext _)=>True
 |_=>False
section
variable{P:Program}{w:World}{H:Hp}{h h':Heap}{x e:Addr}{o':HO}
theorem HOk.write(ok:HOk P w H h)(mu:Mut (H x))(he:e=x∨H e=some (.own x))(k:∀b u,b≠e->h.get? b=some u->h'.get? b=some u)(heo:∃u,h'.get? e=some u)
  (new:ObjOk P w (upd H x o') h' x o'):HOk P w (upd H x o') h':=λb u q=>by
 have nown:∀c y,H c=some (.own y)->c≠x:=λc y r z=>by subst z;rw[r]at mu;exact mu
 have ntup:∀c xs,H c=some (.tup xs)->c≠x:=λc xs r z=>by subst z;rw[r]at mu;exact mu
 have nfrz:∀c o u,H c=some (.frz o u)->c≠x:=λc o u r z=>by subst z;rw[r]at mu;exact mu
 by_cases hb:b=x
 . subst hb;rw[upd_same]at q;cases q;exact new
 .
  rw[upd_ne hb]at q;by_cases hbe:b=e
  .
   have q':H b=some (.own x):=by
    rcases he with z|z
    . exact absurd (hbe.trans z) hb
    . rw[hbe];exact z
   rw[q]at q';cases q';obtain⟨v,hv⟩:=heo;exact⟨v,by rw[hbe];exact hv⟩
  .
   refine(ok b u q).stay (λc v hc r=>k c v ?_ r) (λc r=>by rw[upd_ne (nown c b r)];exact r) (λc xs r=>by rw[upd_ne (ntup c xs r)];exact r) λc ob _ _ r=>by rw[upd_ne (nfrz c ob _ r)];exact r
   rcases hc with rfl|hc
   . exact hbe
   .
    rintro rfl;rcases he with z|z
    . exact nown c b hc z
    . rw[hc]at z;cases z;exact hb rfl
end
structure Un (fs ex:List Addr) (H H':Hp) (h h':Heap):Prop where
 keep:∀b o,h.get? b=some o->H b=none->b∉fs->b∉ex->h'.get? b=some o
 slot:∀b o,h.get? b=some o->H b=none->b∈fs->b∉ex->∃sl,h'.get? b=some {o with slots:=sl}
 free:∀b o,h.get? b=some o->H b=none->b∉ex->H' b=none
 there:∀b o,h.get? b=some o->b∉ex->∃o',h'.get? b=some o'
 tups:∀b xs,H b=some (.tup xs)->H' b=some (.tup xs)
 frzs:∀b o u,H b=some (.frz o u)->H' b=some (.frz o u)
 tbls:∀b q,H b=some (.tbl q)->H' b=some (.tbl q)
section
variable{fs fs' ex ex':List Addr}{H H1:Hp}{h h1 h':Heap}{a x e:Addr}{o:HO}
theorem Un.any(u:Un fs ex H H1 h h1){b:Addr}{ob:Obj}(q:h.get? b=some ob)(n:H b=none)(hx:b∉ex):∃sl,h1.get? b=some {ob with slots:=sl}:=by
 by_cases hb:b∈fs
 . exact u.slot b ob q n hb hx
 . exact⟨ob.slots,u.keep b ob q n hb hx⟩
theorem Un.kept(k:∀b u,h.get? b=some u->h'.get? b=some u):Un fs ex H H h h' :=
 ⟨λb ob q _ _ _=>k b ob q,λb ob q _ _ _=>⟨ob.slots,k b ob q⟩,λ_ _ _ n _=>n,λb ob q _=>⟨ob,k b ob q⟩,λ_ _ q=>q,λ_ _ _ q=>q,λ_ _ q=>q⟩
theorem Un.refl:Un fs ex H H h h:=Un.kept λ_ _ q=>q
theorem Un.laid(k:∀b u,h.get? b=some u->h'.get? b=some u)(hp:h.objs.size<=a)(hn:H a=none):Un fs ex H (upd H a o) h h' where
 keep:=λb u q _ _ _=>k b u q
 slot:=λb u q _ _ _=>⟨u.slots,k b u q⟩
 free:=λb u q n _=>by rw[upd_ne (bc (aq (ay q) hp))];exact n
 there:=λb u q _=>⟨u,k b u q⟩
 tups:=λb xs q=>by rw[upd_ne (ne_of_none q hn)];exact q
 frzs:=λb u xs q=>by rw[upd_ne (ne_of_none q hn)];exact q
 tbls:=λb ps q=>by rw[upd_ne (ne_of_none q hn)];exact q
theorem Un.write(mu:Mut (H x))(he:e=x∨H e=some (.own x))(k:∀b u,b≠e->h.get? b=some u->h'.get? b=some u)(heo:∃u,h'.get? e=some u):Un fs ex H (upd H x o) h h':=by
 have hx:∀b,H b=none->b≠x:=λb n z=>by subst z;rw[n]at mu;exact mu
 have hb:∀b,H b=none->b≠e:=λb n z=>by
  subst z;rcases he with r|r
  . exact hx b n r
  . rw[n]at r;cases r
 have hm:∀b u,H b=some u->¬Mut (some u)->b≠x:=λb u q nm z=>by subst z;rw[q]at mu;exact nm mu
 refine⟨λb u q n _ _=>k b u (hb b n) q,λb u q n _ _=>⟨u.slots,k b u (hb b n) q⟩,λb u q n _=>by rw[upd_ne (hx b n)];exact n,λb u q _=>?_,
  λb xs q=>by rw[upd_ne (hm b _ q λz=>z)];exact q,λb u xs q=>by rw[upd_ne (hm b _ q λz=>z)];exact q,λb ps q=>by rw[upd_ne (hm b _ q λz=>z)];exact q⟩
 by_cases hbe:b=e
 . subst hbe;exact heo
 . exact⟨u,k b u hbe q⟩
theorem Un.mono(u:Un fs ex H H1 h h1)(hs:∀b∈fs,b∈fs')(hx:∀b∈ex,b∈ex'):Un fs' ex' H H1 h h1 :=
 ⟨λb ob q n hb he=>u.keep b ob q n (λz=>hb (hs b z)) λz=>he (hx b z),λ_ _ q n _ he=>u.any q n λz=>he (hx _ z),λb ob q n he=>u.free b ob q n λz=>he (hx b z),λb ob q he=>u.there b ob q λz=>he (hx b z),u.tups,u.frzs,u.tbls⟩
end
noncomputable def trk(h:Heap)(H:Hp):List Addr:=(List.range h.objs.size).filter λa=>(H a).isSome
noncomputable def hidT(h:Heap)(H:Hp):Heap:=PySem.W.hideAll h (trk h H)
theorem hidT_size(h:Heap)(H:Hp):(hidT h H).objs.size=h.objs.size:=PySem.W.hideAll_size _ _
theorem hidT_get{h:Heap}{H:Hp}{b:Addr}{o:Obj}(e:h.get? b=some o)(n:H b=none):(hidT h H).get? b=some o :=
 PySem.W.hideAll_get _ e λhm=>by have q:(H b).isSome=true:=(List.mem_filter.mp hm).2;rw[n]at q;simp at q
theorem of_hidT{h:Heap}{H:Hp}{b:Addr}{o:Obj}(e:(hidT h H).get? b=some o):h.get? b=some o/\H b=none:=by
 have e':h.get? b=some o:=PySem.W.of_hideAll (trk h H) e;refine⟨e',?_⟩
 cases q:H b with
 |none=>rfl
 | some x =>
  have hm:b∈trk h H:=List.mem_filter.mpr ⟨List.mem_range.mpr (ay e'),by simp[q]⟩;have z:(hidT h H).get? b=none:=PySem.W.hideAll_none (trk h H) hm;rw[z]at e;cases e
noncomputable def allNews(g h:Heap)(L:Addr):List (Addr×Obj):=(List.range h.objs.size).filterMap λa=>if a=L∨(g.get? a).isSome=true then none else(h.get? a).map λo=>(a,o)
noncomputable def rest(g h:Heap)(L d:Addr):List (Addr×Obj):=(allNews g h L).filter λp=>decide (p.1≠d)
def BMain(mg:Str->Option Value)(h:Heap):Prop:=∃ bm ob,mg "__builtins__"=some (.ref bm)/\bm≠builtinsNs/\h.get? bm=some ob/\ob.cls=.type "module"/\ob.dict=some builtinsNs/\ob.data=.plain
noncomputable def lamNames:List Str:=["look_at_asks","by_lesser_place","look_at_string"]
noncomputable def lamQ(x:Str):Str:=(x++".<locals>.")++"<lambda>"
def Tbs(K:PySem.W.Frag)(H:Hp):Prop:=∀x∈lamNames,∀c P,PySem.W.tabIn K x=some (c,P)->H P=some (.tbl (lamQ x))
theorem Tbs.un{K:PySem.W.Frag}{fs ex:List Addr}{H H':Hp}{h h':Heap}(t:Tbs K H)(u:Un fs ex H H' h h'):Tbs K H':=λx hx c P e=>u.tbls _ _ (t x hx c P e)
structure Mod (K:PySem.W.Frag) (mg:Str->Option Value) (base:Heap):Prop where
 kin:K.In base
 glob:base.Ns mainGlobals mg
 blt:∃ mb,base.Ns builtinsNs mb/\∀ x:Str,x≠"__name__"->mb x=bootBuiltins x
 nolimit:base.NoLimit
 sysm:∃mm,base.Ns sysModules mm
 bmn:BMain mg base
 cds:∀x∈lamNames,∀c P,PySem.W.tabIn K x=some (c,P)->PySem.W.CodeHd base c P
/-- the context: a def's body (or a comprehension's block) running. base: fixed through the whole law;s₀,H₀: the entry;outer: the frames whose slots others may change (a def's callers);stack: all frames that run;
  ex: iterators that were made ahead of the entry and are walked here (a comprehension's);fn: the names whose cells were made at the entry (a def: all;a comprehension's block: its own);calm: not within an except suite;pn: ab that every state bears;xe: what is wanted of an exception that leaves the code -/
structure Cx where
 prog:Program
 w:World
 K:PySem.W.Frag
 mg:Str->Option Value
 base:Heap
 A:Around
 N:List Str
 s₀:Shared
 H₀:Hp
 env:Env
 outer:List Env
 stack:List Env
 ex:List Addr
 fn:Str->Bool
 calm:Bool
 pn:List (Addr×Obj)
 xe:Value->Shared->Prop
noncomputable def frs(l:List Env):List Addr:=l.filterMap (·.frame)
noncomputable abbrev Cx.fs(X:Cx):List Addr:=frs X.outer
def Vis(sc:Scope)(x:Str):Prop:=sc.names.lookup x=some .local∨sc.names.lookup x=some .cell∨sc.names.lookup x=some .free
def Loc(sc:Scope)(x:Str):Prop:=sc.names.lookup x=some .local∨sc.names.lookup x=some .cell
def Look(env:Env)(h:Heap)(m:Str->Option Value)(x:Str)(u:Value):Prop :=
 (env.kindOf x=some .local/\m x=some u)∨((env.kindOf x=some .cell∨env.kindOf x=some .free)/\∃c,env.cells.lookup x=some c/\h.IsCell c (some u))
structure Cx.Ok (X:Cx):Prop where
 mod:Mod X.K X.mg X.base
 kind:X.env.scope.kind=.function
 glob:X.env.globals=mainGlobals
 blt:X.env.builtins=builtinsNs
 above:X.s₀.heap.objs.size<=X.env.locals
 inj:∀x y c,X.env.cells.lookup x=some c->X.env.cells.lookup y=some c->x=y
 has:∀x,(X.env.kindOf x=some .cell∨X.env.kindOf x=some .free)->∃c,X.env.cells.lookup x=some c
 cab:∀x c,X.fn x=true->X.env.cells.lookup x=some c->X.s₀.heap.objs.size<=c
 hd:X.calm=true->X.A.handled=none
 frames:X.A.frames=some X.stack
 stk:X.stack=X.outer∨(X.stack=X.env::X.outer/\X.env.frame=some X.env.locals)
 exf:∀b∈X.ex,b≠X.env.locals/\∀x c,X.env.cells.lookup x=some c->c≠b
 bs:∀b o,X.base.get? b=some o->X.s₀.heap.get? b=some o/\X.H₀ b=none
 bsz:X.base.objs.size<=X.s₀.heap.objs.size
 noex:∀b o,X.base.get? b=some o->b∉X.ex
 exfs:∀b∈X.ex,b∉X.fs
 funs:X.s₀.heap.FunFrames X.base X.outer
 frf:∀b∈X.fs,X.H₀ b=none
 tbs:Tbs X.K X.H₀
structure Inv (X:Cx) (ab:List (Addr×Obj)) (σ:List (Option V)) (H:Hp) (s:Shared):Prop where
 ok:X.Ok
 os:s.os=X.s₀.os
 bare:AllBare s.gens
 base:Un X.fs X.ex X.H₀ H X.s₀.heap s.heap
 loc:∃m,s.heap.Ns X.env.locals m/\∀(i:Nat)(x:Str)(v:V),X.N[i]?=some x->σ[i]?=some (some v)->Vis X.env.scope x->∃u,RelV v u/\Look X.env s.heap m x u
 cell:∀x c,X.env.cells.lookup x=some c->∃v,s.heap.IsCell c v
 free:H X.env.locals=none
 freeC:∀x c,X.env.cells.lookup x=some c->H c=none∨(X.fn x=false/\∃o,H c=some (.frz o (.own c)))
 pin:∀p∈X.pn++ab,s.heap.get? p.1=some p.2/\H p.1=none/\p.1≠X.env.locals/\p.1∉X.fs/\∀v,p.2.data≠.cell v
 hok:HOk X.prog X.w H s.heap
 len:σ.length=X.N.length
section
variable{X:Cx}{ab:List (Addr×Obj)}{σ:List (Option V)}{H H':Hp}{s:Shared}{h':Heap}
theorem Cx.Ok.nofr(ok:X.Ok){b:Addr}{o:Obj}(e:X.base.get? b=some o):b∉X.fs:=λhb=>by have:=(ok.funs.mem hb).1;rw[e]at this;cases this
theorem Inv.bs(I:Inv X ab σ H s):∀b o,X.base.get? b=some o->s.heap.get? b=some o/\H b=none:=λb o e =>
 ⟨I.base.keep b o (I.ok.bs b o e).1 (I.ok.bs b o e).2 (I.ok.nofr e) (I.ok.noex b o e),I.base.free b o (I.ok.bs b o e).1 (I.ok.bs b o e).2 (I.ok.noex b o e)⟩
theorem Inv.bk(I:Inv X ab σ H s):∀b o,X.base.get? b=some o->s.heap.get? b=some o:=λb o e=>(I.bs b o e).1
theorem Inv.tbs(I:Inv X ab σ H s):Tbs X.K H:=I.ok.tbs.un I.base
theorem Inv.mod(I:Inv X ab σ H s):Mod X.K X.mg X.base:=I.ok.mod
theorem Inv.kIn(I:Inv X ab σ H s):X.K.In s.heap:=I.ok.mod.kin.keeps I.bk
theorem Inv.lt(I:Inv X ab σ H s):X.env.locals<s.heap.objs.size:=let ⟨_,hn,_⟩:=I.loc;hn.lt
theorem Inv.sz(I:Inv X ab σ H s):X.s₀.heap.objs.size<=s.heap.objs.size:=aY I.ok.above (Nat.le_of_lt I.lt)
theorem Inv.nofs(I:Inv X ab σ H s){a:Addr}(h:s.heap.objs.size<=a):a∉X.fs:=λhb=>by obtain⟨_,o,ho,_⟩:=I.ok.funs.mem hb;exact absurd (aq (ay ho) (aY I.sz h)) (bW _)
theorem Inv.cne(I:Inv X ab σ H s):∀x c,X.env.cells.lookup x=some c->c≠X.env.locals:=λx c e z=>by obtain⟨v,o,ho,hd⟩:=I.cell x c e;obtain⟨m,⟨o',es,ep,ho',hd',_⟩,_⟩:=I.loc;rw[z,ho']at ho;cases ho;rw[hd']at hd;cases hd
theorem Inv.funs(I:Inv X ab σ H s):s.heap.FunFrames X.base X.outer:=by
 have all:∀(l:List Env),(∀b∈frs l,b∈X.fs)->X.s₀.heap.FunFrames X.base l->s.heap.FunFrames X.base l:=by
  intro l
  induction l with
  |nil=>intro _ _;trivial
  | cons env r ih =>
   intro hs hl;obtain⟨hk,⟨L,o,hf,hn,ho,hd⟩,hr⟩:=hl;have hL:L∈X.fs:=hs L (by unfold frs;rw[bX,hf];exact ai);obtain⟨sl,e⟩:=I.base.slot L o ho (I.ok.frf L hL) hL λz=>I.ok.exfs L z hL;exact⟨hk,⟨L,_,hf,hn,e,hd⟩,ih (λb hb=>hs b (by unfold frs;rw[bX,hf];exact ag _ hb)) hr⟩
 exact all X.outer (λ_ hb=>hb) I.ok.funs
theorem Inv.stack(I:Inv X ab σ H s):s.heap.FunFrames X.base X.stack:=by
 rcases I.ok.stk with e|⟨e,hf⟩
 . rw[e];exact I.funs
 . rw[e];obtain⟨m,hn,_⟩:=I.loc;refine .cons (by rw[I.ok.kind];decide) hf hn ?_ I.funs;exact Heap.get?_none_of_le (aY I.ok.bsz I.ok.above)
theorem Inv.stkSub(I:Inv X ab σ H s):∀b∈frs X.stack,b∈X.env.locals::X.fs:=λb hb=>by
 rcases I.ok.stk with e|⟨e,hf⟩
 . rw[e]at hb;exact ag _ hb
 . rw[e]at hb;unfold frs at hb;rw[bX,hf]at hb;exact hb
theorem Inv.stkFree(I:Inv X ab σ H s):∀b∈frs X.stack,H b=none:=λb hb=>by
 rcases az.mp (I.stkSub b hb)with e|hb
 . rw[e];exact I.free
 . obtain⟨_,o,ho,_⟩:=I.ok.funs.mem hb;exact I.base.free b o ho (I.ok.frf b hb) λz=>I.ok.exfs b z hb
theorem Inv.step{g':Array GenState}{t':Nat}{d':Drawn}{ch:List Addr}(I:Inv X ab σ H s)
  (hch:∀b∈ch,(b∈X.ex∨X.s₀.heap.objs.size<=b)/\b≠X.env.locals/\(∀x c,X.env.cells.lookup x=some c->c≠b)/\∀p∈X.pn++ab,p.1≠b)
  (keep:∀b o,b≠X.env.locals->b∉X.fs->b∉ch->s.heap.get? b=some o->H b=none->h'.get? b=some o)
  (slot:∀b o,b≠X.env.locals->b∈X.fs->b∉ch->s.heap.get? b=some o->H b=none->∃sl,h'.get? b=some {o with slots:=sl}) (free:∀b o,b∉ch->s.heap.get? b=some o->H b=none->H' b=none)
  (there:∀b o,b∉ch->s.heap.get? b=some o->∃o',h'.get? b=some o')
  (tups:∀b xs,H b=some (.tup xs)->H' b=some (.tup xs)) (frzs:∀b o u,H b=some (.frz o u)->H' b=some (.frz o u)) (tbls:∀b q,H b=some (.tbl q)->H' b=some (.tbl q))
  (ns:∀m,s.heap.Ns X.env.locals m->h'.Ns X.env.locals m) (hok:HOk X.prog X.w H' h') (hg:AllBare g') :
  Inv X ab σ H' {s with heap:=h',gens:=g',drawn:=d',toks:=t' }:=by
 have neL:∀b o,X.s₀.heap.get? b=some o->b≠X.env.locals:=λb o e=>bc (aq (ay e) I.ok.above)
 have neC:∀b o,X.s₀.heap.get? b=some o->b∉X.ex->b∉ch:=λb o e hx hb=>by
  rcases(hch b hb).1 with z|z
  . exact hx z
  . exact absurd (aq (ay e) z) (bW _)
 have cellK:∀x c,X.env.cells.lookup x=some c->∀v,s.heap.IsCell c v->h'.IsCell c v:=λx c e v ⟨o,ho,hd⟩=>by
  have nch:c∉ch:=λz=>(hch c z).2.2.1 x c e rfl;rcases I.freeC x c e with hn|⟨_,o2,hz⟩
  .
   by_cases hc:c∈X.fs
   . obtain⟨sl,q⟩:=slot c o (I.cne x c e) hc nch ho hn;exact⟨_,q,hd⟩
   . exact⟨o,keep c o (I.cne x c e) hc nch ho hn,hd⟩
  . have e1:=(I.hok c _ hz).1;rw[ho]at e1;cases e1;exact⟨o,(hok c _ (frzs c _ _ hz)).1,hd⟩
 refine⟨I.ok,I.os,hg,⟨λb o e n hb hx=>?_,λb o e n hb hx=>?_,λb o e n hx=>?_,λb o e hx=>?_,λb xs e=>tups b xs (I.base.tups b xs e),λb o xs e=>frzs b o xs (I.base.frzs b o xs e),λb ps e=>?_⟩,?_,λx c e=>?_,?_,λx c e=>?_,λp hp=>?_,hok,I.len⟩
 . exact keep b o (neL b o e) hb (neC b o e hx) (I.base.keep b o e n hb hx) (I.base.free b o e n hx)
 . obtain⟨sl,e1⟩:=I.base.slot b o e n hb hx;obtain⟨sl',e2⟩:=slot b _ (neL b o e) hb (neC b o e hx) e1 (I.base.free b o e n hx);exact⟨sl',e2⟩
 . obtain⟨o',e1⟩:=I.base.there b o e hx;exact free b o' (neC b o e hx) e1 (I.base.free b o e n hx)
 . obtain⟨o',e1⟩:=I.base.there b o e hx;exact there b o' (neC b o e hx) e1
 . exact tbls b ps (I.base.tbls b ps e)
 .
  obtain⟨m,hn,hl⟩:=I.loc;refine⟨m,ns m hn,λi x v e1 e2 e3=>?_⟩;obtain⟨u,r,l⟩:=hl i x v e1 e2 e3;refine⟨u,r,?_⟩;rcases l with l|⟨k,c,e,z⟩
  . exact .inl l
  . exact .inr ⟨k,c,e,cellK x c e _ z⟩
 . obtain⟨v,z⟩:=I.cell x c e;exact⟨v,cellK x c e v z⟩
 . obtain⟨m,⟨o,_,_,ho,_⟩,_⟩:=I.loc;exact free _ o (λz=>(hch _ z).2.1 rfl) ho I.free
 .
  obtain⟨v,o,ho,hd⟩:=I.cell x c e;rcases I.freeC x c e with hn|⟨hf,o2,hz⟩
  . exact .inl (free c o (λz=>(hch c z).2.2.1 x c e rfl) ho hn)
  . exact .inr ⟨hf,o2,frzs c _ _ hz⟩
 . obtain⟨e,n,ne,nf,d⟩:=I.pin p hp;have nch:p.1∉ch:=λz=>(hch p.1 z).2.2.2 p hp rfl;exact⟨keep p.1 p.2 ne nf nch e n,free p.1 p.2 nch e n,ne,nf,d⟩
theorem Inv.un{t':Nat}(I:Inv X ab σ H s)(u:Un X.fs [] H H' s.heap h')(hok:HOk X.prog X.w H' h'):Inv X ab σ H' {s with heap:=h',toks:=t' }:=by
 obtain⟨m,⟨o,es,ep,ho,r⟩,_⟩:=id I.loc;obtain⟨sl,hL⟩:=u.any ho I.free zY
 exact I.step (g':=s.gens) (d':=s.drawn) (ch:=[]) (λ_ z=>nomatch z) (λb o _ hb _ e n=>u.keep b o e n hb zY) (λb o _ hb _ e n=>u.slot b o e n hb zY) (λb o _ e n=>u.free b o e n zY) (λb o _ e=>u.there b o e zY) u.tups u.frzs u.tbls (λm' hm=>by
  obtain⟨o',es',ep',ho',r'⟩:=hm;rw[ho]at ho';cases ho'
  exact⟨_,es',ep',hL,r'⟩) hok I.bare
theorem Inv.call{g':Array GenState}{t':Nat}{d':Drawn}{ch:List Addr}(I:Inv X ab σ H s)(u:Un (frs X.stack) ch H H' s.heap h')(hok:HOk X.prog X.w H' h')(hg:AllBare g')
  (hch:∀b∈ch,(b∈X.ex∨X.s₀.heap.objs.size<=b)/\b≠X.env.locals/\(∀x c,X.env.cells.lookup x=some c->c≠b)/\∀p∈X.pn++ab,p.1≠b) :
  Inv X ab σ H' {s with heap:=h',gens:=g',drawn:=d',toks:=t' }:=by
 obtain⟨m,⟨o,es,ep,ho,r⟩,_⟩:=id I.loc;obtain⟨sl,hL⟩:=u.any ho I.free λz=>(hch _ z).2.1 rfl
 exact I.step (ch:=ch) hch (λb o hL hb hc e n=>u.keep b o e n (λz=>(az.mp (I.stkSub b z)).elim hL hb) hc) (λb o _ _ hc e n=>u.any e n hc) (λb o hc e n=>u.free b o e n hc) (λb o hc e=>u.there b o e hc) u.tups u.frzs u.tbls (λm' hm=>by
  obtain⟨o',es',ep',ho',r'⟩:=hm;rw[ho]at ho';cases ho'
  exact⟨_,es',ep',hL,r'⟩) hok hg
theorem Inv.turned{t':Nat}{it:Addr}(I:Inv X ab σ H s)(k:∀b o,b≠it->s.heap.get? b=some o->h'.get? b=some o)(hn:H it=none)(hL:it≠X.env.locals)
  (h1:it∈X.ex∨X.s₀.heap.objs.size<=it) (h2:∀x c,X.env.cells.lookup x=some c->c≠it) (h3:∀p∈X.pn++ab,p.1≠it):Inv X ab σ H {s with heap:=h',toks:=t' }:=by
 have nit:∀b u,H b=some u->b≠it:=λb u e z=>by rw[z,hn]at e;cases e
 refine I.step (g':=s.gens) (d':=s.drawn) (ch:=[it]) (λb hb=>?_) (λb o _ _ hc e _=>k b o (λz=>hc (by simp[z])) e) (λb o _ _ hc e _=>⟨o.slots,k b o (λz=>hc (by simp[z])) e⟩) (λ_ _ _ _ n=>n)
  (λb o hc e=>⟨o,k b o (λz=>hc (by simp[z])) e⟩) (λ_ _ e=>e) (λ_ _ _ e=>e) (λ_ _ e=>e) (λm hm=>?_) (λb u e=>?_) I.bare
 .
  have e:b=it:=by simpa using hb
  subst e;exact⟨h1,hL,h2,h3⟩
 . obtain⟨o,es,ep,ho,r⟩:=hm;exact⟨o,es,ep,k _ o (Ne.symm hL) ho,r⟩
 .
  refine(I.hok b u e).stay (λc v hc q=>k c v ?_ q) (λ_ q=>q) (λ_ _ q=>q) λ_ _ _ _ q=>q;rcases hc with z|z
  . rw[z];exact nit b u e
  . exact nit c _ z
theorem Inv.tok(I:Inv X ab σ H s)(t:Nat):Inv X ab σ H {s with toks:=t}:=I.un (h':=s.heap) (t':=t) Un.refl I.hok
theorem Inv.kept{t':Nat}(I:Inv X ab σ H s)(k:∀b u,s.heap.get? b=some u->h'.get? b=some u):Inv X ab σ H {s with heap:=h',toks:=t' }:=I.un (Un.kept k) (I.hok.kept k)
theorem Inv.laid{a:Addr}{o:HO}{t':Nat}(I:Inv X ab σ H s)(k:∀b u,s.heap.get? b=some u->h'.get? b=some u)(hp:s.heap.objs.size<=a)(new:ObjOk X.prog X.w (upd H a o) h' a o) :
  Inv X ab σ (upd H a o) {s with heap:=h',toks:=t' }:=I.un (Un.laid k hp (I.hok.fresh hp)) (I.hok.laid k hp new)
theorem Inv.write{x e:Addr}{o:HO}{t':Nat}(I:Inv X ab σ H s)(mu:Mut (H x))(he:e=x∨H e=some (.own x))(k:∀b u,b≠e->s.heap.get? b=some u->h'.get? b=some u)(heo:∃u,h'.get? e=some u)
  (new:ObjOk X.prog X.w (upd H x o) h' x o):Inv X ab σ (upd H x o) {s with heap:=h',toks:=t' }:=I.un (Un.write mu he k heo) (I.hok.write mu he k heo new)
theorem Inv.pins_of{pins':List (Addr×Obj)}(I:Inv X ab σ H s)(h:∀p∈pins',s.heap.get? p.1=some p.2/\H p.1=none/\p.1≠X.env.locals/\p.1∉X.fs/\∀v,p.2.data≠.cell v):Inv X pins' σ H s :=
 ⟨I.ok,I.os,I.bare,I.base,I.loc,I.cell,I.free,I.freeC,λp hp=>(aM.mp hp).elim (λz=>I.pin p (au _ z)) (h p),I.hok,I.len⟩
theorem nodup_ix{N:List Str}(hN:N.Nodup){i j:Nat}{x:Str}(a:N[i]?=some x)(b:N[j]?=some x):i=j:=by obtain⟨h1,e1⟩:=ah.mp a;obtain⟨h2,e2⟩:=ah.mp b;exact(List.getElem_inj hN).mp (e1.trans e2.symm)
theorem store_ok2{M:Model}{A:Around}{E:Value->Shared->Prop}{i:Nat}{x:Str}{v:V}{u:Value}{Q:Unit->Shared->Prop}(I:Inv X ab σ H s)(hN:X.N.Nodup)(hi:X.N[i]?=some x)(hx:Loc X.env.scope x)(r:RelV v u)
  (h:∀s',Inv X ab (σ.set i (some v)) H s'->(∃a,Heap.SameBut a s.heap s'.heap/\(a=X.env.locals∨X.env.cells.lookup x=some a))->Q () s') (hf:X.fn x=true∨X.env.scope.names.lookup x=some .local:=by first|exact .inl rfl|exact .inr rfl|assumption):wpAny M A (storeName X.env x u) Q E s:=by
 obtain⟨m,hn,hl⟩:=id I.loc;have hcls:(X.env.scope.kind == .class ||(X.env.scope.kind == .module && X.env.locals != X.env.globals))=false:=by rw[I.ok.kind];rfl
 have hiσ:i<σ.length:=by rw[I.len];exact(ah.mp hi).1
 have cne:=I.cne
 have tracked:∀{a:Addr}{h':Heap},(∃o,s.heap.get? a=some o/\H a=none)->Heap.SameBut a s.heap h'->HOk X.prog X.w H h':=λ{a h'} ha hs b ob e=>by
  obtain⟨_,_,hfree⟩:=ha;refine(I.hok b ob e).stay (λc w' hc q=>(hs.2 c ?_).trans q) (λ_ q=>q) (λ_ _ q=>q) λ_ _ _ _ q=>q;rintro rfl;rcases hc with rfl|hc
  . rw[hfree]at e;cases e
  . rw[hfree]at hc;cases hc
 rcases hx with hk|hk
 .
  refine wpAny_storeName_local hk hn (λh' hn' hs=>?_) hcls;obtain⟨oL,_,_,hoL,_⟩:=id hn;refine h _ ⟨I.ok,I.os,I.bare,⟨λb o e n hb hx=>?_,λb o e n hb hx=>?_,I.base.free,λb o e hx=>?_,I.base.tups,I.base.frzs,I.base.tbls⟩,⟨_,hn',λj y v' e1 e2 e3=>?_⟩,λy c e=>?_,I.free,I.freeC,λp hp=>?_,tracked ⟨oL,hoL,I.free⟩ hs,by simpa using I.len⟩ ⟨_,hs,.inl rfl⟩
  . exact(hs.2 b (bc (aq (ay e) I.ok.above))).trans (I.base.keep b o e n hb hx)
  . obtain⟨sl,e1⟩:=I.base.slot b o e n hb hx;exact⟨sl,(hs.2 b (bc (aq (ay e) I.ok.above))).trans e1⟩
  . obtain⟨o',e1⟩:=I.base.there b o e hx;exact⟨o',(hs.2 b (bc (aq (ay e) I.ok.above))).trans e1⟩
  .
   by_cases hj:j=i
   . subst hj;rw[hi]at e1;cases e1;rw[a9 hiσ]at e2;cases e2;exact⟨u,r,.inl ⟨hk,zY⟩⟩
   .
    rw[br (Ne.symm hj)]at e2;obtain⟨u',r',q⟩:=hl j y v' e1 e2 e3;refine⟨u',r',?_⟩;rcases q with⟨k,e⟩|⟨k,c,e,z⟩
    . refine .inl ⟨k,?_⟩;have:y≠x:=λe=>hj (nodup_ix hN e1 (e ▸ hi));simp[this,e]
    . exact .inr ⟨k,c,e,z.sameBut hs (cne y c e)⟩
  . obtain⟨w',z⟩:=I.cell y c e;exact⟨w',z.sameBut hs (cne y c e)⟩
  . obtain⟨e,n,ne,nf,d⟩:=I.pin p hp;exact⟨(hs.2 p.1 ne).trans e,n,ne,nf,d⟩
 .
  have hfn:X.fn x=true:=by
   rcases hf with z|z
   . exact z
   . rw[z]at hk;cases hk
  obtain⟨c,hc⟩:=I.ok.has x (.inl hk);obtain⟨w',z⟩:=I.cell x c hc;refine wpAny_storeName_cell I.ok.kind hk hc z (λh' hc' hs=>?_);obtain⟨oc,hoc,hocd⟩:=id z;refine h {s with heap:=h' } ⟨I.ok,I.os,I.bare,⟨λb o e n hb hx=>?_,λb o e n hb hx=>?_,I.base.free,λb o e hx=>?_,I.base.tups,I.base.frzs,I.base.tbls⟩,⟨m,hn.sameBut hs (Ne.symm (cne x c hc)),λj y v' e1 e2 e3=>?_⟩,λy c' e=>?_,I.free,I.freeC,λp hp=>?_,tracked ⟨oc,hoc,(I.freeC x c hc).resolve_right λz=>by rw[hfn]at z;exact absurd z.1 zd⟩ hs,by simpa using I.len⟩ ⟨c,hs,.inr hc⟩
  . exact(hs.2 b (bc (aq (ay e) (I.ok.cab x c hfn hc)))).trans (I.base.keep b o e n hb hx)
  . obtain⟨sl,e1⟩:=I.base.slot b o e n hb hx;exact⟨sl,(hs.2 b (bc (aq (ay e) (I.ok.cab x c hfn hc)))).trans e1⟩
  . obtain⟨o',e1⟩:=I.base.there b o e hx;exact⟨o',(hs.2 b (bc (aq (ay e) (I.ok.cab x c hfn hc)))).trans e1⟩
  .
   by_cases hj:j=i
   . subst hj;rw[hi]at e1;cases e1;rw[a9 hiσ]at e2;cases e2;exact⟨u,r,.inr ⟨.inl hk,c,hc,hc'⟩⟩
   .
    rw[br (Ne.symm hj)]at e2;obtain⟨u',r',q⟩:=hl j y v' e1 e2 e3;refine⟨u',r',?_⟩;rcases q with q|⟨k,c',e,z'⟩
    . exact .inl q
    . refine .inr ⟨k,c',e,z'.sameBut hs ?_⟩;rintro rfl;exact hj (nodup_ix hN e1 (I.ok.inj _ _ _ e hc ▸ hi))
  .
   by_cases hcc:c'=c
   . subst hcc;exact⟨_,hc'⟩
   . obtain⟨w2,z2⟩:=I.cell y c' e;exact⟨w2,z2.sameBut hs hcc⟩
  . obtain⟨e,n,ne,nf,d⟩:=I.pin p hp;refine⟨(hs.2 p.1 ?_).trans e,n,ne,nf,d⟩;intro q;rw[q,hoc]at e;have q':oc=p.2:=a8 e;exact d w' (by rw[<- q'];exact hocd)
theorem store_ok{M:Model}{A:Around}{E:Value->Shared->Prop}{i:Nat}{x:Str}{v:V}{u:Value}{Q:Unit->Shared->Prop}(I:Inv X ab σ H s)(hN:X.N.Nodup)(hi:X.N[i]?=some x)(hx:Loc X.env.scope x)(r:RelV v u)
  (h:∀s',Inv X ab (σ.set i (some v)) H s'->Q () s') (hf:X.fn x=true∨X.env.scope.names.lookup x=some .local:=by first|exact .inl rfl|exact .inr rfl|assumption):wpAny M A (storeName X.env x u) Q E s :=
 store_ok2 I hN hi hx r (λs' I' _=>h s' I') hf
theorem Inv.call'{s':Shared}{ch:List Addr}(I:Inv X ab σ H s)(ho:s'.os=s.os)(u:Un (frs X.stack) ch H H' s.heap s'.heap)(hok:HOk X.prog X.w H' s'.heap)(hg:AllBare s'.gens)
  (hch:∀b∈ch,(b∈X.ex∨X.s₀.heap.objs.size<=b)/\b≠X.env.locals/\(∀x c,X.env.cells.lookup x=some c->c≠b)/\∀p∈X.pn++ab,p.1≠b):Inv X ab σ H' s':=by
 obtain⟨h',g',d',t',o'⟩:=s';have e:o'=s.os:=ho;subst e;exact I.call (g':=g') (t':=t') (d':=d') u hok hg hch
end
noncomputable abbrev XK:=Value->Option Addr->Hp->Prop
noncomputable abbrev St:=List (Option V)
noncomputable abbrev VK:=V->Hp->Prop
abbrev TE:=St->Hp->VK->Prop
noncomputable abbrev TT:=St->Hp->(Bool->Hp->Prop)->Prop
noncomputable abbrev TA:=St->Hp->(List V->Hp->Prop)->Prop
structure Ends where
 nx:St->Hp->Prop
 rt:VK
 bk:St->Hp->Prop:=λ_ _=>False
 ct:St->Hp->Prop:=λ_ _=>False
abbrev TS:=Ends->St->Hp->Prop
def EP(X:Cx)(ab:List (Addr×Obj))(σ:St)(Q:VK)(u:Value)(s':Shared):Prop:=∃v H',Inv X ab σ H' s'/\RelV v u/\Q v H'
def TP(X:Cx)(ab:List (Addr×Obj))(σ:St)(Q:Bool->Hp->Prop)(b:Bool)(s':Shared):Prop:=∃H',Inv X ab σ H' s'/\Q b H'
def AP(X:Cx)(ab:List (Addr×Obj))(σ:St)(Q:List V->Hp->Prop)(us:List Value)(s':Shared):Prop:=∃vs H',Inv X ab σ H' s'/\Vals vs us/\Q vs H'
def SP(X:Cx)(ab:List (Addr×Obj))(D:Ends)(f:Flow)(s':Shared):Prop :=
 match f with
 |.next=>∃σ' H',Inv X ab σ' H' s'/\D.nx σ' H'
 |.brk=>∃σ' H',Inv X ab σ' H' s'/\D.bk σ' H'
 |.cont=>∃σ' H',Inv X ab σ' H' s'/\D.ct σ' H'
 |.ret u=>∃v σ' H',Inv X ab σ' H' s'/\RelV v u/\D.rt v H'
def PE(X:Cx)(e:Expr)(t:TE):Prop :=
 ∀(ab:List (Addr×Obj))(s:Shared)(σ:St)(H:Hp)(Q:VK),Inv X ab σ H s->t σ H Q->wpAny (model X.prog X.w) X.A (eval e X.env) (EP X ab σ Q) X.xe s
def PT(X:Cx)(e:Expr)(t:TT):Prop :=
 ∀(ab:List (Addr×Obj))(s:Shared)(σ:St)(H:Hp)(Q:Bool->Hp->Prop),Inv X ab σ H s->t σ H Q->wpAny (model X.prog X.w) X.A (isTrue e X.env (eval e X.env)) (TP X ab σ Q) X.xe s
def PA(X:Cx)(es:List Expr)(t:TA):Prop :=
 ∀(pos:Pos)(ab:List (Addr×Obj))(s:Shared)(σ:St)(H:Hp)(Q:List V->Hp->Prop),Inv X ab σ H s->t σ H Q->wpAny (model X.prog X.w) X.A (spliced (backTo pos (starEach es X.env))) (AP X ab σ Q) X.xe s
def PS(X:Cx)(st:Stmt)(t:TS):Prop :=
 ∀(ab:List (Addr×Obj))(s:Shared)(σ:St)(H:Hp)(D:Ends),Inv X ab σ H s->t D σ H->wpAny (model X.prog X.w) X.A (exec st X.env) (SP X ab D) X.xe s
def PSs(X:Cx)(st:List Stmt)(t:TS):Prop :=
 ∀(ab:List (Addr×Obj))(s:Shared)(σ:St)(H:Hp)(D:Ends),Inv X ab σ H s->t D σ H->wpAny (model X.prog X.w) X.A (execs st X.env) (SP X ab D) X.xe s
theorem thn{α:Type}{t:Sem α}{Q Q':α->Shared->Prop}{M:Model}{A:Around}{E:Value->Shared->Prop}{s:Shared}(h:wpAny M A t Q E s)(hQ:∀a s,Q a s->Q' a s):wpAny M A t Q' E s:=bT h hQ λ_ _ x=>x
section
variable{X:Cx}
theorem bin{a b:Expr}{ta tb:TE}(ha:PE X a ta)(hb:PE X b tb){ab:List (Addr×Obj)}{s:Shared}{σ:St}{H:Hp}{R:V->V->Hp->Prop}(I:Inv X ab σ H s)(h:ta σ H λx H1=>tb σ H1 λy H2=>R x y H2)
  {α:Type} {Q:α->Shared->Prop} {f:Value->Value->Sem α}
  (hf:∀v u s2 x y H2,Inv X ab σ H2 s2->RelV x v->RelV y u->R x y H2->wpAny (model X.prog X.w) X.A (f v u) Q X.xe s2) :
  wpAny (model X.prog X.w) X.A (eval a X.env) (λv s₁=>wpAny (model X.prog X.w) X.A (eval b X.env) (λu s₂=>wpAny (model X.prog X.w) X.A (f v u) Q X.xe s₂) X.xe s₁) X.xe s:=by
 refine thn (ha ab s σ H _ I h) λv s1 ⟨x,H1,I1,r1,q1⟩=>?_;refine thn (hb ab s1 σ H1 _ I1 q1) λu s2 ⟨y,H2,I2,r2,q2⟩=>?_;exact hf v u s2 x y H2 I2 r1 r2 q2
def tVar(i:Nat):TE:=λσ H Q=>∃v,σ[i]?=some (some v)/\Q v H
def tC(v:V):TE:=λ_ H Q=>Q v H
theorem pe_var{i:Nat}{x:Str}{pos:Pos}(hN:X.N[i]?=some x)(hv:Vis X.env.scope x) (hd:(x == ("__debug__" : Str))=false:=by decide) (hcd:(x == ("__classdict__" : Str))=false:=by decide):PE X (.Name x pos) (tVar i):=by
 intro ab s σ H Q I h;obtain⟨v,e,h⟩:=h;obtain⟨m,hn,hl⟩:=I.loc;obtain⟨u,r,l⟩:=hl i x v hN e hv;have fin:EP X ab σ Q u s:=⟨v,H,I,r,h⟩;rcases l with⟨hk,hm⟩|⟨hk,c,hc,hcell⟩
 . exact wpAny_Name (wpAny_loadName_local I.ok.kind hk hn hm fin) hd
 .
  rcases hk with hk|hk
  . exact wpAny_Name (wpAny_loadName_cell I.ok.kind hk hc hcell fin) hd
  . exact wpAny_Name (wpAny_loadName_free I.ok.kind hk hc hcell fin hcd) hd
theorem pe_int {i j pos}:PE X (.Constant (.int i) j pos) (tC (.int i)):=λ_ _ _ H _ I h=>wpAny_Constant_int ⟨.int i,H,I.tok _,⟨_,rfl⟩,h⟩
theorem pe_bl {b j pos}:PE X (.Constant (.bool b) j pos) (tC (.bl b)):=λ_ _ _ H _ I h=>Constant_bool ⟨.bl b,H,I,rfl,h⟩
theorem pe_non {j pos}:PE X (.Constant .none j pos) (tC .non):=λ_ _ _ H _ I h=>Constant_none ⟨.non,H,I,rfl,h⟩
theorem pe_str {x j pos}:PE X (.Constant (.str x) j pos) (tC (.str x)):=λ_ _ _ H _ I h=>Calls.Constant_str ⟨.str x,H,I.tok _,⟨_,rfl⟩,h⟩
def Gl(X:Cx)(x:Str):Prop:=X.env.kindOf x=some .globalImplicit
theorem ld_glob{E:Value->Shared->Prop}{ab:List (Addr×Obj)}{s:Shared}{σ:St}{H:Hp}{x:Str}{u:Value}{pos:Pos}{Q:Value->Shared->Prop}(I:Inv X ab σ H s)(hg:Gl X x)(hm:X.mg x=some u)(h:Q u s)
  (hd:(x == ("__debug__" : Str))=false:=by decide):wpAny (model X.prog X.w) X.A (eval (.Name x pos) X.env) Q E s :=
 Calls.Name_function_global I.ok.kind hg (Calls.loadGlobal_global (by rw[I.ok.glob];exact I.mod.glob.keeps I.bk) hm h) hd
theorem ld_blt{E:Value->Shared->Prop}{ab:List (Addr×Obj)}{s:Shared}{σ:St}{H:Hp}{x:Str}{u:Value}{pos:Pos}{Q:Value->Shared->Prop}(I:Inv X ab σ H s)(hg:Gl X x)(hm:X.mg x=none)(hv:bootBuiltins x=some u)(h:Q u s)
  (hn:x≠"__name__":=by decide) (hd:(x == ("__debug__" : Str))=false:=by decide):wpAny (model X.prog X.w) X.A (eval (.Name x pos) X.env) Q E s:=by
 obtain⟨mb,h1,h2⟩:=I.mod.blt;exact Calls.Name_function_global I.ok.kind hg (Calls.loadGlobal_builtin (by rw[I.ok.glob];exact I.mod.glob.keeps I.bk) hm (by rw[I.ok.blt];exact h1.keeps I.bk) ((h2 x hn).trans hv) h) hd
theorem pe_glob{x:Str}{v:V}{u:Value}{pos:Pos}(hg:Gl X x)(hm:X.mg x=some u)(r:RelV v u) (hd:(x == ("__debug__" : Str))=false:=by decide):PE X (.Name x pos) (tC v) :=
 λ_ _ _ H _ I h=>ld_glob I hg hm ⟨v,H,I,r,h⟩ hd
theorem pe_bltn{x:Str}{v:V}{u:Value}{pos:Pos}(hg:Gl X x)(hm:X.mg x=none)(hv:bootBuiltins x=some u)(r:RelV v u) (hn:x≠"__name__":=by decide) (hd:(x == ("__debug__" : Str))=false:=by decide):PE X (.Name x pos) (tC v) :=
 λ_ _ _ H _ I h=>ld_blt I hg hm hv ⟨v,H,I,r,h⟩ hn hd
variable{a b:Expr}{ta tb:TE}{pos:Pos}
noncomputable def tB(t:TE):TT:=λσ H Q=>t σ H λx H1=>∃c,x=.bl c/\Q c H1
end
def SqL(K:PySem.W.Frag)(H:Hp)(a:Addr)(xs:List V):Prop :=
 Rd H a (.lst xs) ∨
  ∃(o:Obj)(its:Array Value)(n:Nat),K.lookup a=some o/\o.cls=.type "list"/\o.dict=none/\o.data=.seq its n/\its.size<=sizeLine/\Vals xs its.toList
def SqT(K:PySem.W.Frag)(H:Hp)(a:Addr)(xs:List V):Prop :=
 Rd H a (.tup xs) ∨
  ∃(o:Obj)(its:Array Value)(n:Nat),K.lookup a=some o/\o.cls=.type "tuple"/\o.data=.seq its n/\its.size<=sizeLine/\Vals xs its.toList
noncomputable def absV:Value->Option V
 |.none=>some .non
 |.bool b=>some (.bl b)
 |.int i _=>some (.int i)
 |.str x _=>some (.str x)
 |.bytes b _=>some (.byt b)
 |.float b _=>some (.flt b)
 |.ref a=>some (.ref a)
 |.type n=>some (.ty n)
 |_=>none
theorem RelV.abs{x:V}{u:Value}(r:RelV x u):absV u=some x:=by
 cases x with
 |non=>cases r;rfl
 |bl _=>cases r;rfl
 |int _=>obtain⟨t,rfl⟩:=r;rfl
 |str _=>obtain⟨t,rfl⟩:=r;rfl
 |byt _=>obtain⟨t,rfl⟩:=r;rfl
 |flt _=>obtain⟨t,rfl⟩:=r;rfl
 |ref _=>cases r;rfl
 |ty _=>cases r;rfl
theorem RelV.inj{x y:V}{u:Value}(r:RelV x u)(q:RelV y u):x=y:=a8 (r.abs.symm.trans q.abs)
theorem Vals.inj:∀{xs ys:List V}{us:List Value},Vals xs us->Vals ys us->xs=ys
 |_,_,_,.nil,.nil=>rfl
 |_,_,_,.cons r t,.cons r' t'=>by rw[r.inj r',Vals.inj t t']
section
variable{X:Cx}{ab:List (Addr×Obj)}{σ:St}{H:Hp}{s:Shared}{a:Addr}{xs ys:List V}
theorem SqL.of{K:PySem.W.Frag}(h:H a=some (.lst xs)):SqL K H a xs:=.inl (.inl h)
theorem SqT.of{K:PySem.W.Frag}(h:H a=some (.tup xs)):SqT K H a xs:=.inl (.inl h)
theorem Inv.list(I:Inv X ab σ H s)(h:SqL X.K H a xs):∃its:List Value,Vals xs its/\PlainL s.heap a its.toArray/\xs.length<=sizeLine:=by
 rcases h with h|⟨o,its,n,hk,hc,hd,hs,hz,r⟩
 . obtain⟨z,its,n,r,e⟩:=h.ok I.hok;exact⟨its,r,⟨_,n,e,rfl,rfl,rfl⟩,z⟩
 . refine⟨its.toList,r,⟨o,n,I.kIn a o hk,hc,hd,by simpa using hs⟩,?_⟩;have e:=r.length;simp only[bH]at e;omega
theorem Inv.tuple(I:Inv X ab σ H s)(h:SqT X.K H a xs):∃its:List Value,Vals xs its/\IsTup s.heap a its.toArray/\xs.length<=sizeLine:=by
 rcases h with h|⟨o,its,n,hk,hc,hs,hz,r⟩
 . obtain⟨z,its,r,p⟩:=h.ok I.hok;exact⟨its,r,p,z⟩
 . refine⟨its.toList,r,⟨o,I.kIn a o hk,hc,n,by simpa using hs⟩,?_⟩;have e:=r.length;simp only[bH]at e;omega
theorem Inv.list_inj(I:Inv X ab σ H s)(h:SqL X.K H a xs)(h':SqL X.K H a ys):xs=ys:=by
 obtain⟨its,r,⟨o,n,e,_,_,d⟩,_⟩:=I.list h;obtain⟨its',r',⟨o',n',e',_,_,d'⟩,_⟩:=I.list h';rw[e]at e';cases e';rw[d]at d';injection d' with d1 _;have:its=its':=by simpa using congrArg Array.toList d1
 subst this;exact r.inj r'
theorem Inv.tuple_inj(I:Inv X ab σ H s)(h:SqT X.K H a xs)(h':SqT X.K H a ys):xs=ys:=by
 obtain⟨its,r,⟨o,e,_,n,d⟩,_⟩:=I.tuple h;obtain⟨its',r',⟨o',e',_,n',d'⟩,_⟩:=I.tuple h';rw[e]at e';cases e';rw[d]at d';injection d' with d1 _;have:its=its':=by simpa using congrArg Array.toList d1
 subst this;exact r.inj r'
end
noncomputable abbrev Cx.wish(X:Cx)(E:Value->Shared->Prop):Cx:={X with xe:=E}
noncomputable abbrev Cx.nox(X:Cx):Cx:=X.wish λ_ _=>False
theorem Cx.Ok.wish{X:Cx}(ok:X.Ok)(E:Value->Shared->Prop):(X.wish E).Ok :=
 ⟨ok.mod,ok.kind,ok.glob,ok.blt,ok.above,ok.inj,ok.has,ok.cab,ok.hd,ok.frames,ok.stk,ok.exf,ok.bs,ok.bsz,ok.noex,ok.exfs,ok.funs,ok.frf,ok.tbs⟩
theorem Cx.Ok.unwish{X:Cx}{E:Value->Shared->Prop}(ok:(X.wish E).Ok):X.Ok :=
 ⟨ok.mod,ok.kind,ok.glob,ok.blt,ok.above,ok.inj,ok.has,ok.cab,ok.hd,ok.frames,ok.stk,ok.exf,ok.bs,ok.bsz,ok.noex,ok.exfs,ok.funs,ok.frf,ok.tbs⟩
section
variable{X:Cx}{ab:List (Addr×Obj)}{σ:St}{H:Hp}{s:Shared}{E:Value->Shared->Prop}
theorem Inv.wish(I:Inv X ab σ H s)(E:Value->Shared->Prop):Inv (X.wish E) ab σ H s:=⟨I.ok.wish E,I.os,I.bare,I.base,I.loc,I.cell,I.free,I.freeC,I.pin,I.hok,I.len⟩
theorem Inv.unwish(I:Inv (X.wish E) ab σ H s):Inv X ab σ H s:=⟨I.ok.unwish,I.os,I.bare,I.base,I.loc,I.cell,I.free,I.freeC,I.pin,I.hok,I.len⟩
theorem SP.unwish{D:Ends}{f:Flow}{s':Shared}(h:SP (X.wish E) ab D f s'):SP X ab D f s':=by
 cases f with
 |next=>obtain⟨σ',H',I,q⟩:=h;exact⟨σ',H',I.unwish,q⟩
 |brk=>obtain⟨σ',H',I,q⟩:=h;exact⟨σ',H',I.unwish,q⟩
 |cont=>obtain⟨σ',H',I,q⟩:=h;exact⟨σ',H',I.unwish,q⟩
 |ret u=>obtain⟨v,σ',H',I,r,q⟩:=h;exact⟨v,σ',H',I.unwish,r,q⟩
theorem PSs.nox{st:List Stmt}{t:TS}(h:PSs X.nox st t):PSs X st t:=λab s σ H D I hw =>
 bT (h ab s σ H D (I.wish _) hw) (λ_ _ q=>q.unwish) λ_ _ z=>False.elim z
end
section
variable{X:Cx}
theorem Inv.quiet{ab:List (Addr×Obj)}{σ:St}{H:Hp}{s:Shared}(I:Inv X ab σ H s):interactive X.env=false:=by simp[interactive,I.ok.kind]
end
noncomputable abbrev TG:=V->St->Hp->(St->Hp->Prop)->Prop
noncomputable abbrev TGs:=List V->St->Hp->(St->Hp->Prop)->Prop
def PG(X:Cx)(target:Expr)(t:TG):Prop :=
 ∀(ab:List (Addr×Obj))(s:Shared)(σ:St)(H:Hp)(v:V)(u:Value)(Q:St->Hp->Prop),Inv X ab σ H s->RelV v u->t v σ H Q ->
  wpAny (model X.prog X.w) X.A (assign target X.env u) (λ_ s'=>∃σ' H',Inv X ab σ' H' s'/\Q σ' H') X.xe s
def PGs(X:Cx)(ts:List Expr)(t:TGs):Prop :=
 ∀(ab:List (Addr×Obj))(s:Shared)(σ:St)(H:Hp)(vs:List V)(us:List Value)(Q:St->Hp->Prop),Inv X ab σ H s->Vals vs us->t vs σ H Q ->
  wpAny (model X.prog X.w) X.A (assignInOrder ((assignEach ts X.env).map (·.2)) us) (λ_ s'=>∃σ' H',Inv X ab σ' H' s'/\Q σ' H') X.xe s
noncomputable abbrev TSet:=V->V->V->Hp->(Hp->Prop)->Prop
def PSet(X:Cx)(t:TSet):Prop :=
 ∀(ab:List (Addr×Obj))(s:Shared)(σ:St)(H:Hp)(o i v:V)(ov iv u:Value)(Q:Hp->Prop),Inv X ab σ H s->RelV o ov->RelV i iv->RelV v u->t o i v H Q ->
  wpAny (model X.prog X.w) X.A (setItem ov iv u) (λ_ s'=>∃H',Inv X ab σ H' s'/\Q H') X.xe s
noncomputable abbrev TIp:=V->V->Hp->VK->Prop
def PIp(X:Cx)(op:Operator)(t:TIp):Prop :=
 ∀(ab:List (Addr×Obj))(s:Shared)(σ:St)(H:Hp)(x y:V)(v u:Value)(Q:VK),Inv X ab σ H s->RelV x v->RelV y u->t x y H Q ->
  wpAny (model X.prog X.w) X.A (inplaceOp op v u) (EP X ab σ Q) X.xe s
section
variable{X:Cx}{pos:Pos}
noncomputable def gName(i:Nat):TG:=λv σ H Q=>Q (σ.set i (some v)) H
theorem pg_name{i:Nat}{x:Str}(hN:X.N.Nodup)(hi:X.N[i]?=some x)(hx:Loc X.env.scope x)(hf:X.fn x=true∨X.env.scope.names.lookup x=some .local:=by first|exact .inl rfl|exact .inr rfl|assumption):PG X (.Name x pos) (gName i):=by intro ab s σ H v u Q I r h;exact wpAny_assign_Name (store_ok I hN hi hx r (λs' I'=>⟨_,H,I',h⟩) hf)
noncomputable def gNil:TGs:=λvs σ H Q=>vs=[]/\Q σ H
noncomputable def gCons(t:TG)(u:TGs):TGs:=λvs σ H Q=>∃v r,vs=v::r/\t v σ H λσ' H'=>u r σ' H' Q
theorem pgs_nil:PGs X [] gNil:=by intro ab s σ H vs us Q I r h;obtain⟨e,h⟩:=h;subst e;cases r;exact assignInOrder_nil ⟨σ,H,I,h⟩
theorem pgs_cons{e:Expr}{es:List Expr}{t:TG}{u:TGs}(h1:PG X e t)(h2:PGs X es u)
  (hs:(assignEach (e::es) X.env).map (·.2)=assign e X.env::(assignEach es X.env).map (·.2):=by rfl):PGs X (e::es) (gCons t u):=by
 intro ab s σ H vs us Q I r h;obtain⟨v,vr,e1,h⟩:=h;subst e1
 cases r with
 | cons r rr =>
  rw[hs];refine assignInOrder_cons (thn (h1 ab s σ H _ _ _ I r h) λ_ s1 ⟨σ1,H1,I1,q1⟩=>?_);exact h2 ab s1 σ1 H1 _ _ Q I1 rr q1
noncomputable def gTup(K:PySem.W.Frag)(n:Nat)(t:TGs):TG:=λv σ H Q=>∃a xs,v=.ref a/\SqT K H a xs/\xs.length=n/\t xs σ H Q
theorem pg_tup{es:List Expr}{k:Nat}{t:TGs}{n:Nat}(hc:X.calm=true)(h:PGs X es t)
  (hn:(assignEach es X.env).length=n:=by rfl) (hst:(assignEach es X.env).findIdx? (·.1)=none:=by rfl):PG X (.Tuple es k pos) (gTup X.K n t):=by
 intro ab s σ H v u Q I r hw;obtain⟨a,xs,e1,hq,hl,hw⟩:=hw;subst e1;cases r;obtain⟨its,rv,ht,hz⟩:=I.tuple hq;refine assign_Tuple_tuple (I.ok.hd hc) ht (by simp[hn,<- hl,rv.length]) hst λh' hx=>?_;have I1:Inv X ab σ H {s with heap:=h' }:=I.kept (t':=s.toks) λb o e=>hx b o (bc (ay e)) e;exact h ab _ σ H xs _ Q I1 (by simpa using rv) hw
noncomputable def gSub(to ti:TE)(t:TSet):TG:=λv σ H Q=>to σ H λo H1=>ti σ H1 λi H2=>t o i v H2 λH3=>Q σ H3
theorem pg_sub{o i:Expr}{to ti:TE}{t:TSet}(ho:PE X o to)(hi:PE X i ti)(hs:PSet X t)
  (ha:∀v,assign (.Subscript o i pos) X.env v=(do
   let ov <- holding [v] (eval o X.env)
   let iv <- holding [v,ov] (eval i X.env)
   standAt pos
   holding [v,ov,iv] (setItem ov iv v)
   release [v,ov,iv] []):=by intro _;rfl):PG X (.Subscript o i pos) (gSub to ti t):=by
 intro ab s σ H v u Q I r h;rw[ha];refine ak (bV (thn (ho ab s σ H _ I h) λov s1 ⟨x,H1,I1,r1,q1⟩=>?_));refine ak (bV (thn (hi ab s1 σ H1 _ I1 q1) λiv s2 ⟨y,H2,I2,r2,q2⟩=>?_));refine ak (wpAny_standAt (ak (bV (thn (hs ab s2 σ H2 x y v ov iv u _ I2 r1 r2 r q2) λ_ s3 ⟨H3,I3,q3⟩=>?_))));exact wpAny_release ⟨σ,H3,I3,q3⟩
def tAsg(te:TE)(g:TG):TS:=λD σ H=>te σ H λx H1=>g x σ H1 D.nx
theorem ps_asg{tg e:Expr}{te:TE}{g:TG}(he:PE X e te)(hg:PG X tg g)(hs:swapsWithSole [tg] e pos.line X.env=pure false:=by rfl)(hw:swappedStores [tg] e X.env=pure none:=by rfl)
  (h1:(assignEach [tg] X.env).map (·.2)=[assign tg X.env]:=by rfl):PS X (.Assign [tg] e pos) (tAsg te g):=by
 intro ab s σ H D I h;refine wpAny_Assign_stores (thn (he ab s σ H _ I h) λv s1 ⟨x,H1,I1,r1,q1⟩=>?_) hs hw;rw[h1];exact thn (hg ab s1 σ H1 x v _ I1 r1 q1) λ_ s2 q=>q
def tAug(i:Nat)(te:TE)(ti:TIp):TS:=λD σ H=>∃x,σ[i]?=some (some x)/\te σ H λy H1=>ti x y H1 λz H2=>D.nx (σ.set i (some z)) H2
theorem ps_aug{i:Nat}{x:Str}{e:Expr}{te:TE}{op:Operator}{ti:TIp}{pos':Pos}(hN:X.N.Nodup)(hi:X.N[i]?=some x)(hx:Loc X.env.scope x)(he:PE X e te)(ho:PIp X op ti)(hf:X.fn x=true∨X.env.scope.names.lookup x=some .local:=by first|exact .inl rfl|exact .inr rfl|assumption) :
  PS X (.AugAssign (.Name x pos') op e pos) (tAug i te ti):=by
 intro ab s σ H D I h;obtain⟨v,e1,h⟩:=h;obtain⟨m,hn,hl⟩:=I.loc;have vis:Vis X.env.scope x:=by rcases hx with k|k;exact .inl k;exact .inr (.inl k)
 obtain⟨u,r,l⟩:=hl i x v hi e1 vis;refine wpAny_AugAssign_Name ?_
 have go:wpAny (model X.prog X.w) X.A (eval e X.env) (λw s₂=>wpAny (model X.prog X.w) X.A (inplaceOp op u w) (λr s₃=>wpAny (model X.prog X.w) X.A (storeName X.env x r) (λ_=>SP X ab D .next) X.xe s₃) X.xe s₂) X.xe s:=by refine thn (he ab s σ H _ I h) λw s1 ⟨y,H1,I1,r1,q1⟩=>?_;refine thn (ho ab s1 σ H1 v y u w _ I1 r r1 q1) λz s2 ⟨zv,H2,I2,r2,q2⟩=>?_;exact store_ok I2 hN hi hx r2 (λs3 I3=>⟨_,H2,I3,q2⟩) hf
 rcases l with⟨hk,hm⟩|⟨hk,c,hc,hcell⟩
 . exact wpAny_loadName_local I.ok.kind hk hn hm go
 .
  rcases hk with hk|hk
  . exact wpAny_loadName_cell I.ok.kind hk hc hcell go
  .
   rcases hx with k|k
   . have:X.env.scope.names.lookup x=some .free:=hk;rw[k]at this;cases this
   . have:X.env.scope.names.lookup x=some .free:=hk;rw[k]at this;cases this
noncomputable def ipI(f:Int->Int->Int):TIp:=λx y H Q=>∃i j,x=.int i/\y=.int j/\Q (.int (f i j)) H
theorem ip_add:PIp X .Add (ipI λi j=>i+j):=by intro ab s σ H x y v u Q I r1 r2 h;obtain⟨i,j,e1,e2,q⟩:=h;subst e1;subst e2;obtain⟨t,rfl⟩:=r1;obtain⟨t',rfl⟩:=r2;exact iadd_int ⟨.int _,H,I.tok _,⟨_,rfl⟩,q⟩
theorem ip_sub:PIp X .Sub (ipI λi j=>i-j):=by intro ab s σ H x y v u Q I r1 r2 h;obtain⟨i,j,e1,e2,q⟩:=h;subst e1;subst e2;obtain⟨t,rfl⟩:=r1;obtain⟨t',rfl⟩:=r2;exact isub_int ⟨.int _,H,I.tok _,⟨_,rfl⟩,q⟩
end
section
variable{X:Cx}{pos:Pos}
def tWhile(c:TT)(tb:TS):TS:=λD σ H=>∃W:Nat->St->Hp->Prop,(∃m,W m σ H)/\∀m σ H,W m σ H ->
 c σ H λb H1=>if b=true then ∃N:St->Hp->Prop,(∀σ' H',N σ' H'->∃m',m' < m/\W m' σ' H')/\tb {D with nx:=N,ct:=N,bk:=D.nx} σ H1 else D.nx σ H1
theorem ps_while{c:Expr}{body:List Stmt}{tc:TT}{tb:TS}(hp:PassesOwn (model X.prog X.w) X.A X.env X.xe)(hc:PT X c tc)(hb:PSs X body tb):PS X (.While c body [] pos) (tWhile tc tb):=by
 intro ab s σ H D I h;obtain⟨W,⟨m0,w0⟩,turn⟩:=h;refine wpAny_While (codeAny_whileLoop (λn s'=>∃σ' H',Inv X ab σ' H' s'/\W n σ' H') ?_ m0 ⟨σ,H,I,w0⟩);rintro n s1 ⟨σ1,H1,I1,w1⟩;refine bO hp (thn (hc ab s1 σ1 H1 _ I1 (turn n σ1 H1 w1)) λb s2 ⟨H2,I2,q2⟩=>?_)
 cases b with
 | true =>
  obtain⟨N,hN,q2⟩:=q2;rw[if_pos rfl];refine bO hp (thn (hb ab s2 σ1 H2 _ I2 q2) λf s3 q3=>?_)
  cases f with
  | next =>
   obtain⟨σ3,H3,I3,n3⟩:=q3;obtain⟨m',hm,w3⟩:=hN σ3 H3 n3;exact⟨m',hm,σ3,H3,I3,w3⟩
  | cont =>
   obtain⟨σ3,H3,I3,n3⟩:=q3;obtain⟨m',hm,w3⟩:=hN σ3 H3 n3;exact⟨m',hm,σ3,H3,I3,w3⟩
  |brk=>exact q3
  |ret v=>exact q3
 | false =>
  rw[if_neg aH];exact wpAny_execs_nil ⟨σ1,H2,I2,q2⟩
end
structure It where
 go:Nat->Hp->Prop
 yld:Nat->Hp->V->Hp->Prop
 stop:Nat->Hp->Prop
def FpOk(X:Cx)(ab:List (Addr×Obj))(H:Hp)(b:Addr):Prop :=
 H b=none/\b≠X.env.locals/\b∉X.fs/\(b∈X.ex∨X.s₀.heap.objs.size<=b)/\(∀x c,X.env.cells.lookup x=some c->c≠b)/\∀p∈X.pn++ab,p.1≠b
theorem Inv.fpOk{X:Cx}{ab:List (Addr×Obj)}{σ:St}{H H':Hp}{s:Shared}{b:Addr}(I:Inv X ab σ H s)(hb:s.heap.objs.size<=b)(hn:H' b=none):FpOk X ab H' b:=by
 refine⟨hn,Nat.ne_of_gt (aq I.lt hb),I.nofs hb,.inr (aY I.sz hb),λx c e z=>?_,λp hp z=>?_⟩
 . obtain⟨v,q⟩:=I.cell x c e;exact absurd (aq q.lt (by rw[z];exact hb)) (bW _)
 . exact absurd (aq (ay (I.pin p hp).1) (by rw[z];exact hb)) (bW _)
structure Turn (P:Program) (w:World) (K:PySem.W.Frag) (tg:Expr) (J:It) (fp:List Addr) (it:Addr) (tn:Nat->Heap->Prop):Prop where
 mem:it∈fp
 obj:∀i h,tn i h->∀b∈fp,∃o,h.get? b=some o/\∀v,o.data≠.cell v
 keep:∀i h h',tn i h->(∀b∈fp,∀o,h.get? b=some o->h'.get? b=some o)->tn i h'
 item:∀(X:Cx),X.prog=P->X.w=w->X.K=K->X.calm=true->∀(i:Nat)(ab:List (Addr×Obj))(s:Shared)(σ:St)(H:Hp)(E:Value->Shared->Prop),Inv X ab σ H s->(∀b∈fp,FpOk X ab H b)->tn i s.heap->J.go i H ->
  wpAny (model P w) X.A (pyNext (.ref it)) (λr s1=>∃u,r=some u /\
   wpAny (model P w) X.A (letOwnedTupleGo tg (.ref it) u) (λ_ s2=>∃x H',Inv X ab σ H' s2/\RelV x u/\J.yld i H x H'/\tn (i+1) s2.heap/\∀b∈fp,H' b=none) E s1) E s
 done:∀(X:Cx),X.prog=P->X.w=w->X.K=K->X.calm=true->∀(i:Nat)(ab:List (Addr×Obj))(s:Shared)(σ:St)(H:Hp)(E:Value->Shared->Prop),Inv X ab σ H s->(∀b∈fp,FpOk X ab H b)->tn i s.heap->J.stop i H ->
  wpAny (model P w) X.A (pyNext (.ref it)) (λr s1=>r=none/\Inv X ab σ H s1) E s
 self:∀(A:Around)(i:Nat)(s:Shared)(Q:Value->Shared->Prop)(E:Value->Shared->Prop),tn i s.heap->Q (.ref it) s->wpAny (model P w) A (pyIter (.ref it)) Q E s
noncomputable abbrev TI:=St->Hp->(It->Hp->Prop)->Prop
def PIE(X:Cx)(ab:List (Addr×Obj))(σ:St)(tg:Expr)(R:It->Hp->Prop)(itv:Value)(s2:Shared):Prop :=
 ∃(it:Addr)(fp:List Addr)(tn:Nat->Heap->Prop)(J:It)(H':Hp),itv=.ref it/\Inv X ab σ H' s2/\Turn X.prog X.w X.K tg J fp it tn/\tn 0 s2.heap/\(∀b∈fp,FpOk X ab H' b)/\R J H'
def PI(X:Cx)(tg iter:Expr)(wi:TI):Prop :=
 ∀(ab:List (Addr×Obj))(s:Shared)(σ:St)(H:Hp)(R:It->Hp->Prop),Inv X ab σ H s->wi σ H R ->
  wpAny (model X.prog X.w) X.A (eval iter X.env) (λv s1=>wpAny (model X.prog X.w) X.A (pyIter v) (PIE X ab σ tg R) X.xe s1) X.xe s
theorem go_of {M : Model} {A : Around} {E : Value → Shared → Prop} {s : Shared} {tg : Expr} {it : Addr} {u : Value} {o : Obj} {n : String} {vs : Array Value} {Q : Unit → Shared → Prop} (ho : s.heap.get? it = some o) (hc : o.cls = .type n) (hd : o.data = .fields vs)
    (hn : ["enumerate", "zip", "dict_itemiterator", "dict_reverseitemiterator", "odict_iterator", "itertools.zip_longest", "itertools.pairwise"].contains n = false) (hQ : Q () s) : wpAny M A (letOwnedTupleGo tg (.ref it) u) Q E s := by
  unfold letOwnedTupleGo
  cases tg<;>first
    |exact aD hQ
    | (cases u<;>first
        |exact aD hQ
        | (refine ak (wpAny_load ho ?_)
           rw[hc, hd]
           show wpAny M A (if(["enumerate", "zip", "dict_itemiterator", "dict_reverseitemiterator", "odict_iterator", "itertools.zip_longest", "itertools.pairwise"].contains n && vs[0]? == some (rawInt _)) = true then _ else _) Q E s
           rw[if_neg (by intro h;rw[hn, Bool.false_and]at h;cases h)]
           exact aD hQ))
noncomputable def Itl(K:PySem.W.Frag)(a:Addr):It :=
 ⟨λi H=>∃xs x,SqL K H a xs/\xs[i]?=some x,λi H x H'=>H'=H/\∀xs,SqL K H a xs->xs[i]?=some x,λi H=>∃xs,SqL K H a xs/\xs.length<=i⟩
noncomputable def Itt(K:PySem.W.Frag)(a:Addr):It :=
 ⟨λi H=>∃xs x,SqT K H a xs/\xs[i]?=some x,λi H x H'=>H'=H/\∀xs,SqT K H a xs->xs[i]?=some x,λi H=>∃xs,SqT K H a xs/\xs.length<=i⟩
noncomputable def Itr(lo:Int)(n:Nat):It:=⟨λi _=>i<n,λi H x H'=>H'=H/\x=.int (lo+i),λi _=>n<=i⟩
theorem turn_list{P:Program}{w:World}{K:PySem.W.Frag}{tg:Expr}(a it:Addr):Turn P w K tg (Itl K a) [it] it (λi h=>h.IsListIter it a i) where
 mem:=by simp
 obj:=λi h st b hb=>by
  have e:b=it:=by simpa using hb
  subst e;obtain⟨o,e,c,d⟩:=st;exact⟨o,e,λv z=>by rw[d]at z;cases z⟩
 keep:=λi h h' st k=>st.at λo e=>k it zY o e
 item:=by intro X hP hw hK hc i ab s σ H E I hf st hg;subst hP hw hK;obtain⟨xs,x,hq,hx⟩:=hg;obtain⟨its,rv,p,hz⟩:=I.list hq;obtain⟨u,hu,ru⟩:=rv.get hx;obtain⟨f0,f1,f2,f3,f4,f5⟩:=hf it zY;refine wpAny_pyNext_list_item st p.isList (x:=u) (by simpa using hu) λh' st' sb=>?_;have I1:Inv X ab σ H {s with heap:=h' }:=I.turned (t':=s.toks) (λb o hb e=>(sb.2 b hb).trans e) f0 f1 f3 f4 f5;obtain⟨o,e,c,d⟩:=id st';exact⟨u,rfl,go_of (s:={s with heap:=h' }) e c d zd ⟨x,H,I1,ru,⟨rfl,λys hy=>by rw[I.list_inj hy hq];exact hx⟩,st',λb hb=>(hf b hb).1⟩⟩
 done:=by intro X hP hw hK hc i ab s σ H E I hf st hg;subst hP hw hK;obtain⟨xs,hq,hx⟩:=hg;obtain⟨its,rv,p,hz⟩:=I.list hq;obtain⟨f0,f1,f2,f3,f4,f5⟩:=hf it zY;have hl:=rv.length;exact wpAny_pyNext_list_end (I.ok.hd hc) st p.isList (by simp;omega) λh' eb=>⟨rfl,I.turned (t':=s.toks) (λb o hb e=>eb b o hb e) f0 f1 f3 f4 f5⟩
 self:=λ_ _ _ _ _ st h=>wpAny_pyIter_listiter st h
theorem turn_tuple{P:Program}{w:World}{K:PySem.W.Frag}{tg:Expr}(a it:Addr):Turn P w K tg (Itt K a) [it] it (λi h=>h.IsTupleIter it a i) where
 mem:=by simp
 obj:=λi h st b hb=>by
  have e:b=it:=by simpa using hb
  subst e;obtain⟨o,e,c,d⟩:=st;exact⟨o,e,λv z=>by rw[d]at z;cases z⟩
 keep:=λi h h' st k=>st.at λo e=>k it zY o e
 item:=by intro X hP hw hK hc i ab s σ H E I hf st hg;subst hP hw hK;obtain⟨xs,x,hq,hx⟩:=hg;obtain⟨its,rv,p,hz⟩:=I.tuple hq;obtain⟨u,hu,ru⟩:=rv.get hx;obtain⟨f0,f1,f2,f3,f4,f5⟩:=hf it zY;refine wpAny_pyNext_tuple_item st (show s.heap.IsTuple a its.toArray from p) (x:=u) (by simpa using hu) λh' st' sb=>?_;have I1:Inv X ab σ H {s with heap:=h' }:=I.turned (t':=s.toks) (λb o hb e=>(sb.2 b hb).trans e) f0 f1 f3 f4 f5;obtain⟨o,e,c,d⟩:=id st';exact⟨u,rfl,go_of (s:={s with heap:=h' }) e c d zd ⟨x,H,I1,ru,⟨rfl,λys hy=>by rw[I.tuple_inj hy hq];exact hx⟩,st',λb hb=>(hf b hb).1⟩⟩
 done:=by intro X hP hw hK hc i ab s σ H E I hf st hg;subst hP hw hK;obtain⟨xs,hq,hx⟩:=hg;obtain⟨its,rv,p,hz⟩:=I.tuple hq;obtain⟨f0,f1,f2,f3,f4,f5⟩:=hf it zY;have hl:=rv.length;exact wpAny_pyNext_tuple_end (I.ok.hd hc) st (show s.heap.IsTuple a its.toArray from p) (by simp;omega) λh' eb=>⟨rfl,I.turned (t':=s.toks) (λb o hb e=>eb b o hb e) f0 f1 f3 f4 f5⟩
 self:=λ_ _ _ _ _ st h=>wpAny_pyIter_tupleiter st h
theorem turn_range{P:Program}{w:World}{K:PySem.W.Frag}{tg:Expr}(it:Addr)(lo:Int)(n:Nat):Turn P w K tg (Itr lo n) [it] it (λi h=>IsRangeIter h it (lo+(i:Nat)*1) ((n:Int)-(i:Nat)) 1) where
 mem:=by simp
 obj:=λi h st b hb=>by
  have e:b=it:=by simpa using hb
  subst e
  exact⟨_,st,λv z=>by
   have z':Data.fields _=Data.cell v:=z
   cases z'⟩
 keep:=λi h h' st k=>k it zY _ st
 item:=by intro X hP hw hK hc i ab s σ H E I hf st hg;subst hP hw hK;obtain⟨f0,f1,f2,f3,f4,f5⟩:=hf it zY;have W:=Walks.range (prog:=X.prog) (w:=X.w) (I.ok.hd hc) it lo 1 n;refine W.item i s _ _ hg st λv h' tk hv st' kk=>?_;obtain⟨t,rfl⟩:=hv;have I1:Inv X ab σ H {s with heap:=h',toks:=tk}:=I.turned (λb o hb e=>kk b o (by simpa using hb) e) f0 f1 f3 f4 f5;refine⟨_,rfl,go_of (s:={s with heap:=h',toks:=tk}) (n:="range_iterator") st' rfl rfl zd ⟨.int (lo+i),H,I1,⟨t,?_⟩,⟨rfl,rfl⟩,st',λb hb=>(hf b hb).1⟩⟩;rw[Int.mul_one]
 done:=by intro X hP hw hK hc i ab s σ H E I hf st hg;subst hP hw hK;obtain⟨f0,f1,f2,f3,f4,f5⟩:=hf it zY;exact wpAny_pyNext_range_end (I.ok.hd hc) st (by have:n<=i:=hg;omega) λh' eb=>⟨rfl,I.turned (t':=s.toks) (λb o hb e=>eb b o hb e) f0 f1 f3 f4 f5⟩
 self:=λ_ _ _ _ _ st h=>wpAny_pyIter_rangeiter st h
section
variable{X:Cx}{tg:Expr}
theorem range_it{ab:List (Addr×Obj)}{σ:St}{H:Hp}{s:Shared}{R:It->Hp->Prop}{E:Value->Shared->Prop}{lo hi:Int}{t u v:Tok}{tk:Nat}(I:Inv X ab σ H s)(h1 : -(2^62)<=lo)(h2:lo<2^62)(h3 : -(2^62)<=hi)(h4:hi<2^62)
  (q:R (Itr lo (hi-lo).toNat) H):wpAny (model X.prog X.w) X.A (pyIter (.ref s.heap.objs.size)) (PIE X ab σ tg R) E {s with heap:=s.heap.push {cls:=.type "range",data:=.fields #[.int lo t,.int hi u,.int 1 v] },toks:=tk}:=by
 refine wpAny_pyIter_range (IsRange.new ..) (small_one h1 h2 h3 h4) ?_;have I1:Inv X ab σ H {s with heap:=s.heap.push {cls:=.type "range",data:=.fields #[.int lo t,.int hi u,.int 1 v] },toks:=tk}:=I.kept λb o e=>av _ e
 refine⟨(s.heap.push {cls:=.type "range",data:=.fields #[.int lo t,.int hi u,.int 1 v] }).objs.size,[(s.heap.push {cls:=.type "range",data:=.fields #[.int lo t,.int hi u,.int 1 v] }).objs.size],_,_,H,rfl,
  I1.kept (t':=tk) λb o e=>av _ e,turn_range _ lo (hi-lo).toNat,?_,λb hb=>?_,q⟩
 .
  have e1:lo+((0:Nat):Int)*1=lo:=by simp
  have e2:(((hi-lo).toNat:Nat):Int)-((0:Nat):Int)=Builtin.Range.rangeSize lo hi 1:=by rw[rangeSize_one];split<;>omega
  show IsRangeIter _ _ (lo+((0:Nat):Int)*1) ((((hi-lo).toNat:Nat):Int)-((0:Nat):Int)) 1;rw[e1,e2];exact aS _ rfl
 .
  have e:b=(s.heap.push {cls:=.type "range",data:=.fields #[.int lo t,.int hi u,.int 1 v] }).objs.size:=by simpa using hb
  subst e;exact I1.fpOk (ao _) (I1.hok.fresh (ao _))
noncomputable def iRng1(ta:TA):TI:=λσ H R=>ta σ H λvs H1=>∃j:Int,vs=[.int j]/\-(2^62)<=j/\j<2^62/\R (Itr 0 j.toNat) H1
theorem pi_range1{a:Expr}{ta:TA}{p pos:Pos} (hg:Gl X "range") (hm:X.mg "range"=none) (ha:PA X [a] ta) (hs:starEach [a] X.env=[(false,eval a X.env)]:=by rfl):PI X tg (.Call (.Name "range" p) [a] [] pos) (iRng1 ta):=by
 intro ab s σ H R I h;refine Call_ (ld_blt I hg hm boot_range (PyProof.Rows.callWith_type1 (thn (ha pos ab s σ H _ I h) λus s1 ⟨vs,H1,I1,r1,q1⟩=>?_) hs rfl));obtain⟨j,e,q1,q2,q⟩:=q1;subst e
 cases r1 with
 | cons r rr =>
  cases rr;obtain⟨t,rfl⟩:=r;exact call_range_1 (range_it I1 zZ zZ q1 q2 (by simpa using q))
noncomputable def pinsAt(fp:List Addr)(h:Heap):List (Addr×Obj):=fp.filterMap λb=>(h.get? b).map λo=>(b,o)
theorem mem_pinsAt{fp:List Addr}{h:Heap}{b:Addr}{o:Obj}(hb:b∈fp)(e:h.get? b=some o):(b,o)∈pinsAt fp h:=List.mem_filterMap.mpr ⟨b,hb,by rw[e];rfl⟩
theorem of_pinsAt{fp:List Addr}{h:Heap}{p:Addr×Obj}(hp:p∈pinsAt fp h):p.1∈fp/\h.get? p.1=some p.2:=by
 obtain⟨b,hb,e⟩:=List.mem_filterMap.mp hp
 cases q:h.get? b with
 |none=>rw[q]at e;cases e
 | some o =>
  rw[q]at e;have e':(b,o)=p:=a8 e;subst e';exact⟨hb,q⟩
theorem Inv.pinned{ab:List (Addr×Obj)}{σ:St}{H:Hp}{s:Shared}{fp:List Addr}(I:Inv X ab σ H s)(hf:∀b∈fp,FpOk X ab H b)(ho:∀b∈fp,∃o,s.heap.get? b=some o/\∀v,o.data≠.cell v):Inv X (ab++pinsAt fp s.heap) σ H s :=
 I.pins_of λp hp=>(aM.mp hp).elim (λz=>I.pin p (ar _ z)) λz=>by obtain⟨hb,e⟩:=of_pinsAt z;obtain⟨f0,f1,f2,_⟩:=hf p.1 hb;obtain⟨o,e',d⟩:=ho p.1 hb;rw[e]at e';cases e';exact⟨e,f0,f1,f2,d⟩
theorem Inv.unpinned{ab pl:List (Addr×Obj)}{σ:St}{H:Hp}{s:Shared}(I:Inv X (ab++pl) σ H s):Inv X ab σ H s:=I.pins_of λp hp=>I.pin p (ar _ (au _ hp))
end
abbrev R2:=V->V->Hp->VK->Prop
def OpR(X:Cx)(f:Value->Value->Sem Value)(r:R2):Prop :=
 ∀(ab:List (Addr×Obj))(s:Shared)(σ:St)(H:Hp)(x y:V)(v u:Value)(Q:VK),Inv X ab σ H s->RelV x v->RelV y u->r x y H Q ->
  wpAny (model X.prog X.w) X.A (f v u) (EP X ab σ Q) X.xe s
def UnR(X:Cx)(f:Value->Sem Value)(r:V->Hp->VK->Prop):Prop :=
 ∀(ab:List (Addr×Obj))(s:Shared)(σ:St)(H:Hp)(x:V)(v:Value)(Q:VK),Inv X ab σ H s->RelV x v->r x H Q ->
  wpAny (model X.prog X.w) X.A (f v) (EP X ab σ Q) X.xe s
def CallR(X:Cx)(f:Value)(r:List V->Hp->VK->Prop):Prop :=
 ∀(ab:List (Addr×Obj))(s:Shared)(σ:St)(H:Hp)(xs:List V)(us:List Value)(Q:VK),Inv X ab σ H s->Vals xs us->r xs H Q ->
  wpAny (model X.prog X.w) X.A (call f us) (EP X ab σ Q) X.xe s
def tOp(r:R2)(ta tb:TE):TE:=λσ H Q=>ta σ H λx H1=>tb σ H1 λy H2=>r x y H2 Q
def rI(C:Int->Int->Prop)(g:Int->Int->V):R2:=λx y H Q=>∃i j,x=.int i/\y=.int j/\C i j/\Q (g i j) H
def rI0(g:Int->Int->V):R2:=λx y H Q=>∃i j,x=.int i/\y=.int j/\Q (g i j) H
def rU(g:Int->V):V->Hp->VK->Prop:=λx H Q=>∃i,x=.int i/\Q (g i) H
section
variable{X:Cx}{a b:Expr}{ta tb:TE}
theorem binT(ha:PE X a ta)(hb:PE X b tb){ab:List (Addr×Obj)}{s:Shared}{σ:St}{H:Hp}{R:V->V->Hp->Prop}(I:Inv X ab σ H s)
  (h:ta σ H λx H1=>tb σ H1 λy H2=>R x y H2) {Q:Value->Shared->Prop} {f:Value->Value->Sem Value}
  (hf:∀v u s2 x y H2,Inv X ab σ H2 s2->RelV x v->RelV y u->R x y H2->wpAny (model X.prog X.w) X.A (f v u) Q X.xe s2) :
  wpAny (model X.prog X.w) X.A (eval a X.env) (λv s₁=>wpAny (model X.prog X.w) X.A (eval b X.env) (λu s₂=>wpAny (model X.prog X.w) X.A (f v u) Q X.xe s₂) X.xe s₁) X.xe s:=by
 refine thn (ha ab s σ H _ I h) λv s1 ⟨x,H1,I1,r1,q1⟩=>?_;refine thn (hb ab s1 σ H1 _ I1 q1) λu s2 ⟨y,H2,I2,r2,q2⟩=>?_;exact hf v u s2 x y H2 I2 r1 r2 q2
theorem opI{f:Value->Value->Sem Value}{C:Int->Int->Prop}{g:Int->Int->Int}
  (rule:∀(i j:Int)(t u:Tok)(s:Shared)(Q:Value->Shared->Prop)(E:Value->Shared->Prop),C i j->Q (.int (g i j) s.toks) {s with toks:=s.toks+1}->wpAny (model X.prog X.w) X.A (f (.int i t) (.int j u)) Q E s) :
  OpR X f (rI C λi j=>.int (g i j)):=by
 intro ab s σ H x y v u Q I rx ry h;obtain⟨i,j,rfl,rfl,hc,q⟩:=h;obtain⟨t,rfl⟩:=rx;obtain⟨t',rfl⟩:=ry;exact rule i j t t' s _ _ hc ⟨.int (g i j),H,I.tok _,⟨_,rfl⟩,q⟩
theorem opI0{f:Value->Value->Sem Value}{g:Int->Int->Int}
  (rule:∀(i j:Int)(t u:Tok)(s:Shared)(Q:Value->Shared->Prop)(E:Value->Shared->Prop),Q (.int (g i j) s.toks) {s with toks:=s.toks+1}->wpAny (model X.prog X.w) X.A (f (.int i t) (.int j u)) Q E s) :
  OpR X f (rI0 λi j=>.int (g i j)):=by
 intro ab s σ H x y v u Q I rx ry h;obtain⟨i,j,rfl,rfl,q⟩:=h;obtain⟨t,rfl⟩:=rx;obtain⟨t',rfl⟩:=ry;exact rule i j t t' s _ _ ⟨.int (g i j),H,I.tok _,⟨_,rfl⟩,q⟩
theorem opB0{f:Value->Value->Sem Value}{g:Int->Int->Bool}
  (rule:∀(i j:Int)(t u:Tok)(s:Shared)(Q:Value->Shared->Prop)(E:Value->Shared->Prop),Q (.bool (g i j)) s->wpAny (model X.prog X.w) X.A (f (.int i t) (.int j u)) Q E s) :
  OpR X f (rI0 λi j=>.bl (g i j)):=by
 intro ab s σ H x y v u Q I rx ry h;obtain⟨i,j,rfl,rfl,q⟩:=h;obtain⟨t,rfl⟩:=rx;obtain⟨t',rfl⟩:=ry;exact rule i j t t' s _ _ ⟨.bl (g i j),H,I,rfl,q⟩
def CPow(i j:Int):Prop:=0<=j/\j<=1000000/\i.natAbs<2^64
def CMul(i j:Int):Prop:=(-(2^64)<i/\i<2^64)∨(-(2^64)<j/\j<2^64)
theorem CMul.ok{i j:Int}(h:CMul i j):IntMulOk i j:=by
 rcases h with⟨h1,h2⟩|⟨h1,h2⟩
 . exact .of_left (intBits_le_64 h1 h2)
 . exact .of_right (intBits_le_64 h1 h2)
theorem op_add:OpR X (binaryOp .Add) (rI0 λi j=>.int (i+j)):=opI0 λ_ _ _ _ _ _ _ q=>add_int q
theorem op_sub:OpR X (binaryOp .Sub) (rI0 λi j=>.int (i-j)):=opI0 λ_ _ _ _ _ _ _ q=>sub_int q
theorem op_modN:OpR X (binaryOp .Mod) (rI (λ_ j=>j≠0) λi j=>.int (i.fmod j)):=opI λ_ _ _ _ _ _ _ hc q=>mod_int' hc q
theorem op_pow:OpR X (binaryOp .Pow) (rI CPow λi j=>.int (i^j.toNat)):=opI λ_ _ _ _ _ _ _ hc q=>pow_int_small hc.1 hc.2.1 hc.2.2 q
theorem unI{f:Value->Sem Value}{g:Int->Int}
  (rule:∀(i:Int)(t:Tok)(s:Shared)(Q:Value->Shared->Prop)(E:Value->Shared->Prop),Q (.int (g i) s.toks) {s with toks:=s.toks+1}->wpAny (model X.prog X.w) X.A (f (.int i t)) Q E s) :
  UnR X f (rU λi=>.int (g i)):=by
 intro ab s σ H x v Q I rx h;obtain⟨i,rfl,q⟩:=h;obtain⟨t,rfl⟩:=rx;exact rule i t s _ _ ⟨.int (g i),H,I.tok _,⟨_,rfl⟩,q⟩
theorem un_neg:UnR X (unaryOp .USub) (rU λi=>.int (-i)):=unI λ_ _ _ _ _ q=>neg_int q
end
noncomputable def scal:V->V->Bool
 |.non,.non=>true | .non,.int _=>true | .int _,.non=>true | .non,.bl _=>true | .bl _,.non=>true | .non,.str _=>true | .str _,.non=>true
 |.int _,.int _=>true | .bl _,.bl _=>true | .str _,.str _=>true | .byt _,.byt _=>true
 |.int _,.str _=>true | .str _,.int _=>true | .bl _,.str _=>true | .str _,.bl _=>true
 |_,_=>false
def rEq:R2:=λx y H Q=>scal x y=true/\Q (.bl (decide (x=y))) H
theorem dec_int{i j:Int}:decide (V.int i=V.int j)=(i == j):=by rw[Bool.eq_iff_iff];simp
theorem dec_bl{i j:Bool}:decide (V.bl i=V.bl j)=(i == j):=by rw[Bool.eq_iff_iff];simp
theorem dec_str{i j:Str}:decide (V.str i=V.str j)=(i == j):=by rw[Bool.eq_iff_iff];simp
theorem dec_byt{i j:Array UInt8}:decide (V.byt i=V.byt j)=(i.toList == j.toList):=by rw[Bool.eq_iff_iff];cases i;cases j;simp
section
variable{X:Cx}{a b c:Expr}{ta tb tc:TE}{pos:Pos}
theorem fin_bl{ab:List (Addr×Obj)}{σ:St}{H:Hp}{s:Shared}{Q:VK}{k k':Bool}(I:Inv X ab σ H s)(q:Q (.bl k) H)(e:k=k'):EP X ab σ Q (.bool k') s:=by subst e;exact⟨.bl k,H,I,rfl,q⟩
theorem op_eq:OpR X (compareOp .Eq) rEq:=by
 intro ab s σ H x y v u Q I rx ry h;obtain⟨hs,q⟩:=h
 cases x with
 | non =>
  cases rx
  cases y with
  |non=>cases ry;exact PySem.EqNone.eq_none_none (fin_bl I q zY)
  |bl j=>cases ry;exact PySem.EqNone.eq_none_bool (fin_bl I q zY)
  |int j=>obtain⟨t',rfl⟩:=ry;exact PySem.EqNone.eq_none_int (fin_bl I q zY)
  |str j=>obtain⟨t',rfl⟩:=ry;exact PySem.EqNone.eq_none_str (fin_bl I q zY)
  |_=>exact absurd (show false=true from hs) aH
 | bl i =>
  cases rx
  cases y with
  |non=>cases ry;exact PySem.EqNone.eq_bool_none (fin_bl I q zY)
  |bl j=>cases ry;exact eq_bool (fin_bl I q dec_bl)
  |str j=>obtain⟨t',rfl⟩:=ry;exact PySem.EqMixed.eq_bool_str (fin_bl I q zY)
  |_=>exact absurd (show false=true from hs) aH
 | int i =>
  obtain⟨t,rfl⟩:=rx
  cases y with
  |non=>cases ry;exact PySem.EqNone.eq_int_none (fin_bl I q zY)
  |int j=>obtain⟨t',rfl⟩:=ry;exact eq_int (fin_bl I q dec_int)
  |str j=>obtain⟨t',rfl⟩:=ry;exact PySem.EqMixed.eq_int_str (fin_bl I q zY)
  |_=>exact absurd (show false=true from hs) aH
 | str i =>
  obtain⟨t,rfl⟩:=rx
  cases y with
  |non=>cases ry;exact PySem.EqNone.eq_str_none (fin_bl I q zY)
  |bl j=>cases ry;exact PySem.EqMixed.eq_str_bool (fin_bl I q zY)
  |int j=>obtain⟨t',rfl⟩:=ry;exact PySem.EqMixed.eq_str_int (fin_bl I q zY)
  |str j=>obtain⟨t',rfl⟩:=ry;exact eq_str (fin_bl I q dec_str)
  |_=>exact absurd (show false=true from hs) aH
 | byt i =>
  obtain⟨t,rfl⟩:=rx
  cases y with
  |byt j=>obtain⟨t',rfl⟩:=ry;exact PySem.W.eq_bytes (fin_bl I q dec_byt)
  |_=>exact absurd (show false=true from hs) aH
 |_=>cases y<;>exact absurd (show false=true from hs) aH
theorem op_lt:OpR X (compareOp .Lt) (rI0 λi j=>.bl (decide (i<j))):=opB0 λ_ _ _ _ _ _ _ q=>lt_int q
theorem op_le:OpR X (compareOp .LtE) (rI0 λi j=>.bl (decide (i<=j))):=opB0 λ_ _ _ _ _ _ _ q=>le_int q
theorem op_gt:OpR X (compareOp .Gt) (rI0 λi j=>.bl (decide (j<i))):=opB0 λ_ _ _ _ _ _ _ q=>gt_int q
theorem op_ge:OpR X (compareOp .GtE) (rI0 λi j=>.bl (decide (j<=i))):=opB0 λ_ _ _ _ _ _ _ q=>ge_int q
theorem op_isN:OpR X (compareOp .Is) (λx y H Q=>y=.non/\Q (.bl (decide (x=.non))) H):=by
 intro ab s σ H x y v u Q I rx ry h;obtain⟨rfl,q⟩:=h;cases ry;refine is_none_gen (fin_bl I q ?_)
 cases x<;>first
  |(cases rx;rfl)
  |(obtain⟨t,rfl⟩:=rx;rfl)
theorem nomark(b:Expr){op:CmpOp}(h:op≠.In:=by decide)(h2:op≠.NotIn:=by decide):behindInMarks op b=false:=by
 have e1:(op == CmpOp.In)=false:=by cases op<;>first|rfl|exact absurd rfl h
 have e2:(op == CmpOp.NotIn)=false:=by cases op<;>first|rfl|exact absurd rfl h2
 cases b<;>simp[behindInMarks,e1,e2]
noncomputable def tTest(t:TE):TT:=λσ H Q=>t σ H λx H'=>∃k,x=.bl k/\Q k H'
theorem pt_cmpR{op:CmpOp}{r:R2}(ho:OpR X (compareOp op) r)(ha:PE X a ta)(hb:PE X b tb)(hm:behindInMarks op b=false):PT X (.Compare a [op] [b] pos) (tTest (tOp r ta tb)):=by
 intro ab s σ H Q I h
 refine wpAny_isTrue_Compare1 (thn (ha ab s σ H _ I h) λv s1 ⟨x,H1,I1,r1,q1⟩=>thn (hb ab s1 σ H1 _ I1 q1) λu s2 ⟨y,H2,I2,r2,q2⟩ =>
  thn (ho ab s2 σ H2 x y v u _ I2 r1 r2 q2) λc s3 ⟨z,H3,I3,r3,k,e,q3⟩=>?_) hm
 subst e;cases r3;exact aN ⟨H3,I3,q3⟩
def tChain(r r':R2)(ta tb tc:TE):TE:=λσ H Q=>ta σ H λx H1=>tb σ H1 λy H2=>r x y H2 λz H3=>∃k,z=.bl k /\
 (if k=true then tc σ H3 λw' H4=>r' y w' H4 Q else Q (.bl false) H3)
theorem pe_chain{op op':CmpOp}{r r':R2}(ho:OpR X (compareOp op) r)(ho':OpR X (compareOp op') r')(ha:PE X a ta)(hb:PE X b tb)(hc:PE X c tc)
  (hm:lastMarks [op,op'] [b,c]=false:=by with_unfolding_all rfl):PE X (.Compare a [op,op'] [b,c] pos) (tChain r r' ta tb tc):=by
 intro ab s σ H Q I h
 refine Compare_chain (thn (ha ab s σ H _ I h) λv s1 ⟨x,H1,I1,r1,q1⟩=>chain_link (thn (hb ab s1 σ H1 _ I1 q1) λu s2 ⟨y,H2,I2,r2,q2⟩ =>
  thn (ho ab s2 σ H2 x y v u _ I2 r1 r2 q2) λd s3 ⟨z,H3,I3,r3,k,e,q3⟩=>?_)) hm
 subst e;cases r3;refine aN ?_
 cases k with
 |false=>exact ite_ff ⟨.bl false,H3,I3,rfl,q3⟩
 |true=>exact ite_tt (chain_last (thn (hc ab s3 σ H3 _ I3 q3) λw' s4 ⟨z',H4,I4,r4,q4⟩=>ho' ab s4 σ H4 y z' u w' Q I4 r2 r4 q4))
theorem pt_chain{op op':CmpOp}{r r':R2}(ho:OpR X (compareOp op) r)(ho':OpR X (compareOp op') r')(ha:PE X a ta)(hb:PE X b tb)(hc:PE X c tc)
  (hm:lastMarks [op,op'] [b,c]=false:=by with_unfolding_all rfl):PT X (.Compare a [op,op'] [b,c] pos) (tTest (tChain r r' ta tb tc)):=by
 intro ab s σ H Q I h
 refine isTrue_chain (thn (ha ab s σ H _ I h) λv s1 ⟨x,H1,I1,r1,q1⟩=>test_link (thn (hb ab s1 σ H1 _ I1 q1) λu s2 ⟨y,H2,I2,r2,q2⟩ =>
  thn (ho ab s2 σ H2 x y v u _ I2 r1 r2 q2) λd s3 ⟨z,H3,I3,r3,k,e,q3⟩=>?_)) hm
 subst e;cases r3;refine aN ?_
 cases k with
 | false =>
  obtain⟨k',e',q'⟩:=q3;cases e';exact ite_ff ⟨H3,I3,q'⟩
 | true =>
  refine ite_tt (test_last (thn (hc ab s3 σ H3 _ I3 q3) λw' s4 ⟨z',H4,I4,r4,q4⟩=>thn (ho' ab s4 σ H4 y z' u w' _ I4 r2 r4 q4) λd' s5 ⟨z2,H5,I5,r5,k2,e2,q5⟩=>?_));subst e2;cases r5;exact aN ⟨H5,I5,q5⟩
theorem line63:(sizeLine:Nat)<2^63:=by rw[sizeLine_eq];decide
theorem op_add_str:OpR X (binaryOp .Add) (λx y H Q=>∃i j,x=.str i/\y=.str j/\i.length+j.length<=sizeLine/\Q (.str (i++j)) H):=by intro ab s σ H x y v u Q I rx ry h;obtain⟨i,j,rfl,rfl,hz,q⟩:=h;obtain⟨t,rfl⟩:=rx;obtain⟨t',rfl⟩:=ry;exact add_str (λt' tk=>⟨.str (i++j),H,I.tok _,⟨_,rfl⟩,q⟩) hz
theorem vals1{x:V}{us:List Value}(r:Vals [x] us):∃u,us=[u]/\RelV x u:=by
 cases r with
 |cons r1 r2=>cases r2;exact⟨_,rfl,r1⟩
theorem vals2{x y:V}{us:List Value}(r:Vals [x,y] us):∃u w',us=[u,w']/\RelV x u/\RelV y w':=by
 cases r with
 | cons r1 r2 =>
  cases r2 with
  |cons r3 r4=>cases r4;exact⟨_,_,rfl,r1,r3⟩
theorem call_max2(hc:X.calm=true):CallR X (.builtin "max") (λxs H Q=>∃ i j,xs=[.int i,.int j]/\Q (.int (if j > i then j else i)) H):=by
 intro ab s σ H xs us Q I r h;obtain⟨i,j,rfl,q⟩:=h;obtain⟨u,w',rfl,⟨t,rfl⟩,⟨t',rfl⟩⟩:=vals2 r;refine max_two_ints (I.ok.hd hc) λh' tk k=>⟨_,H,I.kept k,?_,q⟩;by_cases hj:j > i
 . rw[if_pos hj,if_pos hj];exact⟨_,rfl⟩
 . rw[if_neg hj,if_neg hj];exact⟨_,rfl⟩
theorem call_min2(hc:X.calm=true):CallR X (.builtin "min") (λxs H Q=>∃ i j,xs=[.int i,.int j]/\Q (.int (if j < i then j else i)) H):=by
 intro ab s σ H xs us Q I r h;obtain⟨i,j,rfl,q⟩:=h;obtain⟨u,w',rfl,⟨t,rfl⟩,⟨t',rfl⟩⟩:=vals2 r;refine min_two_ints (I.ok.hd hc) λh' tk k=>⟨_,H,I.kept k,?_,q⟩;by_cases hj:j<i
 . rw[if_pos hj,if_pos hj];exact⟨_,rfl⟩
 . rw[if_neg hj,if_neg hj];exact⟨_,rfl⟩
theorem call_int1:CallR X (.type "int") (λxs H Q=>(∃ i,xs=[.int i]/\Q (.int i) H)∨∃ k,xs=[.bl k]/\Q (.int (if k then 1 else 0)) H):=by
 intro ab s σ H xs us Q I r h;rcases h with⟨i,rfl,q⟩|⟨k,rfl,q⟩
 . obtain⟨u,rfl,t,rfl⟩:=vals1 r;exact call_int_int ⟨.int i,H,I,⟨_,rfl⟩,q⟩
 .
  obtain⟨u,rfl,r1⟩:=vals1 r;cases r1
  exact call_int_bool ⟨.int (if k then 1 else 0),H,I.tok _,⟨_,rfl⟩,q⟩
end
structure Cls (K:PySem.W.Frag) (C:Addr):Prop where
 pg:PySem.W.plainGet K C Str.empty=true
 hd:PySem.W.hasDictIn K C=true
 po:PySem.W.plainOver K C=true
 sa:PySem.W.findIn K (.ref C) "__setattr__"=some (some (.builtin "object.__setattr__"))
theorem Cls.get{K:PySem.W.Frag}{C:Addr}(c:Cls K C)(f:Str):PySem.W.plainGet K C f=true:=c.pg
structure Room (k:Nat) (A:Around):Prop where
 hd:A.handled=none
 dp:A.depth+3*k+5<recursionLimit
 un:A.units+16*k+200<cLine
 gd:A.guards=some []
theorem Room.mono{j k:Nat}{A:Around}(r:Room k A)(h:j<=k):Room j A:=⟨r.hd,by have:=r.dp;omega,by have:=r.un;omega,r.gd⟩
theorem Room.deeper{k:Nat}{A:Around}(r:Room (k+1) A)(env:Env):Room k (A.deeper env) :=
 ⟨r.hd,by have:=r.dp;show A.depth+1+3*k+5<_;omega,by have:=r.un;show A.units+3+16*k+200<_;omega,r.gd⟩
theorem Room.depth{k:Nat}{A:Around}(r:Room k A):A.depth<recursionLimit:=by have:=r.dp;omega
theorem Room.units{k:Nat}{A:Around}(r:Room k A):A.units+64<cLine:=by have:=r.un;omega
noncomputable def tNil:TA:=λ_ H Q=>Q [] H
noncomputable def tCons(ta:TE)(tr:TA):TA:=λσ H Q=>ta σ H λx H1=>tr σ H1 λxs H2=>Q (x::xs) H2
section
variable{X:Cx}{e:Expr}{es:List Expr}{te:TE}{t:TA}{pos:Pos}
theorem pa_nil:PA X [] tNil:=λ_ _ _ _ H Q I h=>Calls.spliced_nil ⟨[],H,I,.nil,h⟩
theorem pa_cons(ha:PE X e te)(hr:PA X es t)(hs:starEach (e::es) X.env=(false,eval e X.env)::starEach es X.env:=by rfl):PA X (e::es) (tCons te t):=by intro pos ab s σ H Q I h;rw[hs];show wpAny _ _ (spliced ((false,eval e X.env)::backTo pos (starEach es X.env))) _ _ s;refine Calls.spliced_cons (thn (ha ab s σ H _ I h) λu s1 ⟨x,H1,I1,r1,q1⟩=>?_);exact thn (hr pos ab s1 σ H1 _ I1 q1) λus s2 ⟨xs,H2,I2,r2,q2⟩=>⟨x::xs,H2,I2,.cons r1 r2,q2⟩
end
noncomputable abbrev Sp:=List V->Hp->VK->XK->Prop
noncomputable abbrev CXT:=List Env->Hp->Shared->XK->Value->Shared->Prop
structure Env0 (P:Program) (w:World) (K:PySem.W.Frag) (mg:Str->Option Value) (base:Heap) (A:Around) (outer:List Env) (s:Shared) (H:Hp):Prop where
 frames:A.frames=some outer
 mod:Mod K mg base
 bs:∀b o,base.get? b=some o->s.heap.get? b=some o/\H b=none
 bsz:base.objs.size<=s.heap.objs.size
 funs:s.heap.FunFrames base outer
 frf:∀b∈frs outer,H b=none
 hok:HOk P w H s.heap
 bare:AllBare s.gens
 tbs:Tbs K H
def CE(outer:List Env)(P:Program)(w:World)(H:Hp)(s:Shared)(Q:VK)(u:Value)(s':Shared):Prop :=
 ∃v H',s'.os=s.os/\AllBare s'.gens/\Un (frs outer) [] H H' s.heap s'.heap/\HOk P w H' s'.heap/\RelV v u/\Q v H'
def CR(CX:CXT)(outer:List Env)(P:Program)(w:World)(H:Hp)(s:Shared)(Q:VK)(E:XK)(r:Result)(s':Shared):Prop :=
 match r with
 |.ok (.ret u)=>CE outer P w H s Q u s'
 |.ok _=>False
 |.error e=>CX outer H s E e s'
structure FnOk (P:Program) (w:World) (K:PySem.W.Frag) (mg:Str->Option Value) (base:Heap) (CX:CXT) (k:Nat) (f:Addr) (fd:FuncData) (ps:List Str) (sp:Sp):Prop where
 len:∀vs H Q E,sp vs H Q E->vs.length=ps.length
 run:∀(A:Around)(outer:List Env)(s:Shared)(H:Hp)(args:Args)(us:List Value)(vs:List V)(Q:VK)(E:XK),Room k A->Env0 P w K mg base A outer s H->BindsTo s fd args (ps.zip us)->Vals vs us->sp vs H Q E ->
  codeAny (model P w) A (.call (.ref f) args) (CR CX outer P w H s Q E) s
theorem FnOk.mono{P:Program}{w:World}{K:PySem.W.Frag}{mg:Str->Option Value}{base:Heap}{CX:CXT}{j k:Nat}{f:Addr}{fd:FuncData}{ps:List Str}{sp:Sp}(F:FnOk P w K mg base CX j f fd ps sp)(h:j<=k) :
  FnOk P w K mg base CX k f fd ps sp:=⟨F.len,λA outer s H args us vs Q E hr=>F.run A outer s H args us vs Q E (hr.mono h)⟩
section
variable{X:Cx}{ab:List (Addr×Obj)}{σ:St}{H:Hp}{s s':Shared}
theorem Inv.env0(I:Inv X ab σ H s):Env0 X.prog X.w X.K X.mg X.base X.A X.stack s H :=
 ⟨I.ok.frames,I.ok.mod,I.bs,aY I.ok.bsz I.sz,I.stack,I.stkFree,I.hok,I.bare,I.tbs⟩
theorem Inv.after{Q:VK}{u:Value}(I:Inv X ab σ H s)(h:CE X.stack X.prog X.w H s Q u s'):EP X ab σ Q u s':=by obtain⟨v,H',os,bare,un,hok,r,q⟩:=h;obtain⟨hh,g,d,t,os'⟩:=s';obtain rfl:os'=s.os:=os;exact⟨v,H',I.call (h':=hh) (g':=g) (d':=d) (t':=t) (ch:=[]) un hok bare (λb z=>absurd z zY),r,q⟩
end
def Binds(K:PySem.W.Frag)(fd:FuncData)(ps:List Str)(ds:List Value):Prop :=
 ∀(s:Shared)(us:List Value),K.In s.heap->(us++ds).length=ps.length->BindsTo s fd ⟨us,[]⟩ (ps.zip (us++ds))
theorem Binds.all{K:PySem.W.Frag}{fd:FuncData}{ps:List Str}(h:∀us:List Value,us.length=ps.length->bindArgs fd ⟨us,[]⟩=pure (ps.zip us)):Binds K fd ps []:=λs us _ hl=>by rw[bG]at hl ⊢;exact .of_eq (h us hl)
def Passes(CX:CXT)(X:Cx)(E:XK):Prop:=∀(ab:List (Addr×Obj))(σ:St)(H:Hp)(s:Shared)(e:Value)(s':Shared),Inv X ab σ H s->CX X.stack H s E e s'->X.xe e s'
section
variable{X:Cx}{CX:CXT}{k:Nat}{f:Addr}{fd:FuncData}{ps:List Str}{sp:Sp}{dvs:List V}{ds:List Value}{E:XK}{e:Expr}
theorem run_fn{ab:List (Addr×Obj)}{σ:St}{H:Hp}{s:Shared}{Q:VK}{us:List Value}{vs:List V}(F:FnOk X.prog X.w X.K X.mg X.base CX k f fd ps sp)(hr:Room k X.A)(hb:Binds X.K fd ps ds)(hd:Vals dvs ds)(hx:Passes CX X E)
  (I:Inv X ab σ H s) (r:Vals vs us) (h:sp (vs++dvs) H Q E):wpAny (model X.prog X.w) X.A (call (.ref f) us) (EP X ab σ Q) X.xe s:=by
 have r2:Vals (vs++dvs) (us++ds):=r.append hd;have hl:(us++ds).length=ps.length:=by rw[<- r2.length];exact F.len _ _ _ _ h
 refine wpAny_call (codeAny_mono (F.run X.A X.stack s H ⟨us,[]⟩ (us++ds) (vs++dvs) Q E hr I.env0 (hb s us I.kIn hl) r2 h) λr s' hq=>?_)
 cases r with
 |error e=>exact hx ab σ H s e s' I hq
 | ok fl =>
  cases fl with
  |ret u=>exact I.after hq
  |next=>exact False.elim hq
  |brk=>exact False.elim hq
  |cont=>exact False.elim hq
end
structure FnScope (N P:List Str) (sc:Scope):Prop where
 kind:sc.kind=.function
 co:sc.isCoroutine=false
 gen:sc.isGenerator=false
 nd:N.Nodup
 pre:N.take P.length=P
 par:∀x∈P,sc.names.lookup x=some .local∨sc.names.lookup x=some .cell
 nofree:∀y∈sc.names,y.2≠.free
theorem bindL_out{kindOf:Str->Option NameKind}{x:Str}:∀{binds:List (Str×Value)}{m:Str->Option Value},(∀v,(x,v)∉binds)->bindL kindOf binds m x=m x
 |[],_,_=>rfl
 | (n,v)::r,m,h=>by
  unfold bindL;rw[bindL_out λw hw=>h w (ag _ hw)];split
  .
   have:x≠n:=by rintro rfl;exact h v ai
   simp[this]
  . rfl
theorem bindC_out{kindOf:Str->Option NameKind}{x:Str}:∀{binds:List (Str×Value)}{m:Str->Option Value},(∀v,(x,v)∉binds)->bindC kindOf binds m x=m x
 |[],_,_=>rfl
 | (n,v)::r,m,h=>by
  unfold bindC;rw[bindC_out λw hw=>h w (ag _ hw)];split
  . rfl
  .
   have:x≠n:=by rintro rfl;exact h v ai
   simp[this]
theorem bindL_get{kindOf:Str->Option NameKind}{x:Str}{v:Value}:∀{P:List Str}{vs:List Value}{i:Nat}{m:Str->Option Value},P.Nodup->P[i]?=some x->vs[i]?=some v->kindOf x=some .local ->
  bindL kindOf (P.zip vs) m x=some v
 |[],_,_,_,_,h,_,_=>by simp at h
 |_::_,[],_,_,_,_,h,_=>by simp at h
 | p::P,w::vs,0,m,nd,h1,h2,hk=>by simp at h1 h2;subst h1;subst h2;show bindL kindOf ((p,w)::P.zip vs) m p=_;unfold bindL;rw[bindL_out λv hv=>(aO.mp nd).1 (List.of_mem_zip hv).1,if_pos hk];simp
 | p::P,w::vs,i+1,m,nd,h1,h2,hk=>by show bindL kindOf ((p,w)::P.zip vs) m x=_;unfold bindL;exact bindL_get (i:=i) (aO.mp nd).2 (by simpa using h1) (by simpa using h2) hk
theorem bindC_get{kindOf:Str->Option NameKind}{x:Str}{v:Value}:∀{P:List Str}{vs:List Value}{i:Nat}{m:Str->Option Value},P.Nodup->P[i]?=some x->vs[i]?=some v->kindOf x≠some .local ->
  bindC kindOf (P.zip vs) m x=some v
 |[],_,_,_,_,h,_,_=>by simp at h
 |_::_,[],_,_,_,_,h,_=>by simp at h
 | p::P,w::vs,0,m,nd,h1,h2,hk=>by simp at h1 h2;subst h1;subst h2;show bindC kindOf ((p,w)::P.zip vs) m p=_;unfold bindC;rw[bindC_out λv hv=>(aO.mp nd).1 (List.of_mem_zip hv).1,if_neg hk];simp
 | p::P,w::vs,i+1,m,nd,h1,h2,hk=>by show bindC kindOf ((p,w)::P.zip vs) m x=_;unfold bindC;exact bindC_get (i:=i) (aO.mp nd).2 (by simpa using h1) (by simpa using h2) hk
noncomputable def start(N:List Str)(vs:List V):St:=vs.map some++List.replicate (N.length-vs.length) none
noncomputable def cxOf(CX:CXT)(P:Program)(w:World)(K:PySem.W.Frag)(mg:Str->Option Value)(base:Heap)(N:List Str)(qual:Str)(scope:Scope)(f:Addr)(cd:Value)(A:Around)(outer:List Env)(s:Shared)(H:Hp)(E:XK):Cx where
 prog:=P
 w:=w
 K:=K
 mg:=mg
 base:=base
 A:=A.deeper (envOfC qual scope s.heap.objs.size f cd)
 N:=N
 s₀:=s
 H₀:=H
 env:=envOfC qual scope s.heap.objs.size f cd
 outer:=outer
 stack:=envOfC qual scope s.heap.objs.size f cd::outer
 ex:=[]
 calm:=true
 fn:=λ_=>true
 pn:=[]
 xe:=λe s'=>wpAny (model P w) (A.deeper (envOfC qual scope s.heap.objs.size f cd)) (leaving (envOfC qual scope s.heap.objs.size f cd) e) (λ_ s''=>CX outer H s E e s'') (λe' s''=>CX outer H s E e' s'') s'
theorem cell_has{sc:Scope}{n:Nat}{x:Str}(h:sc.names.lookup x=some .cell):∃c,(cellsFrom n sc.names []).lookup x=some c:=by have q:=PySem.W.cellsFrom_some sc.names n [] (.inl h);exact Option.isSome_iff_exists.mp q
theorem inv_start{CX:CXT}{P:Program}{w:World}{K:PySem.W.Frag}{mg:Str->Option Value}{base:Heap}{N ps:List Str}{qual:Str}{scope:Scope}{f:Addr}{cd:Value}{A:Around}{outer:List Env}{s s1:Shared}{H:Hp}{E:XK}{us:List Value}{vs:List V}
  (S:FnScope N ps scope) (hd:A.handled=none) (e0:Env0 P w K mg base A outer s H) (hl:vs.length=ps.length) (r:Vals vs us)
  (x:InCallC s s.heap.objs.size (bindL (envOfC qual scope s.heap.objs.size f cd).kindOf (ps.zip us) λ_=>none) (cellsFrom (s.heap.objs.size+1) scope.names []) (bindC (envOfC qual scope s.heap.objs.size f cd).kindOf (ps.zip us) λ_=>none) s1) :
  Inv (cxOf CX P w K mg base N qual scope f cd A outer s H E) [] (start N vs) H s1:=by
 have hpl:ps.length<=N.length:=by have:=congrArg List.length S.pre;rw[bZ]at this;omega
 obtain⟨h1,tk,rfl,hk⟩:=x.done;have noA:∀b:Addr,b∉(cxOf CX P w K mg base N qual scope f cd A outer s H E).ex:=λb z=>absurd (show b∈([]:List Addr)from z) zY
 refine⟨⟨e0.mod,S.kind,rfl,rfl,ao _,λy z c h1 h2=>?_,λy hy=>?_,λy c _ h=>?_,λ_=>hd,Around.frames_deeper e0.frames,.inr ⟨rfl,rfl⟩,λb z=>absurd z (noA b),e0.bs,e0.bsz,λb _ _=>noA b,λb z=>absurd z (noA b),e0.funs,e0.frf,e0.tbs⟩,
  rfl,e0.bare,Un.kept hk,⟨_,x.toInCall.ns,λi y v h1 h2 h3=>?_⟩,λy c h=>⟨_,x.cell y c h⟩,e0.hok.fresh (ao _),λy c h=>?_,λp hp=>absurd (show p∈([]:List (Addr×Obj))from hp) zY,e0.hok.kept hk,?_⟩
 . exact name_of_addr x.apart (bI h1) (bI h2)
 .
  have hy:scope.names.lookup y=some .cell∨scope.names.lookup y=some .free:=hy;rcases hy with hy|hy
  . exact cell_has hy
  . exact absurd rfl (S.nofree _ (bI hy))
 . exact Nat.le_of_lt (x.above y c (bI h))
 .
  have hi:i<vs.length:=by
   unfold start at h2;by_cases hi:i<vs.length
   . exact hi
   . rw[aj (by simpa using hi)]at h2;rw[List.getElem?_replicate]at h2;split at h2<;>cases h2
  have ha:vs[i]?=some v:=by
   unfold start at h2;rw[aE (by simpa using hi),bo]at h2
   cases e:vs[i]? with
   |none=>rw[e]at h2;cases h2
   |some a=>rw[e]at h2;cases h2;rfl
  obtain⟨u,hu,rv⟩:=r.get ha;have hp:ps[i]?=some y:=by rw[<- S.pre,List.getElem?_take_of_lt zZ];exact h1
  have ndP:ps.Nodup:=by rw[<- S.pre];exact S.nd.sublist (List.take_sublist _ _)
  refine⟨u,rv,?_⟩;rcases S.par y (bu hp)with k|k
  . exact .inl ⟨k,bindL_get ndP hp hu k⟩
  . obtain⟨c,e⟩:=cell_has (n:=s.heap.objs.size+1) k;refine .inr ⟨.inl k,c,e,?_⟩;have q:=x.cell y c e;rw[bindC_get ndP hp hu (by show scope.names.lookup y≠_;rw[k];decide)]at q;exact q
 . exact .inl (e0.hok.fresh (Nat.le_of_lt (x.above y c (bI h))))
 . unfold start;show _=N.length;rw[aC,aF,List.length_replicate];omega
theorem fn_of{CX:CXT}{P:Program}{w:World}{K:PySem.W.Frag}{mg:Str->Option Value}{base:Heap}{k:Nat}{f:Addr}{name qual:Str}{params:Arguments}{body:List Stmt}{scope:Scope}{dV kV doc pm cdv ct oc:Value}{an od:Option Addr}
  {osl:Array (Option Value)} {N ps:List Str} {sp:Sp} (lk:K.lookup f=some ⟨oc,od,.func (PySem.W.fnOf name qual params body scope dV kV doc pm an cdv ct),osl⟩) (hcd:PySem.W.codeIn K cdv qual=true) (S:FnScope N ps scope)
  (len:∀vs H Q E,sp vs H Q E->vs.length=ps.length)
  (hbody:∀(A:Around)(outer:List Env)(s:Shared)(H:Hp)(vs:List V)(Q:VK)(E:XK),Room k (A.deeper (envOfC qual scope s.heap.objs.size f cdv))->sp vs H Q E ->
   ∃t,PSs (cxOf CX P w K mg base N qual scope f cdv A outer s H E) body t/\t {nx:=λ_ H'=>Q .non H',rt:=Q} (start N vs) H) :
  FnOk P w K mg base CX (k+1) f (PySem.W.fnOf name qual params body scope dV kV doc pm an cdv ct) ps sp:=by
 refine⟨len,λA outer s H args us vs Q E hr e0 hb r hsp=>?_⟩;have hl:=len _ _ _ _ hsp;have KX:K.In s.heap:=e0.mod.kin.keeps λb o e=>(e0.bs b o e).1;have lim:s.heap.NoLimit:=e0.mod.nolimit.keeps λb o e=>(e0.bs b o e).1
 have hkind:∀y∈ps.zip us,scope.names.lookup y.1=some .local∨(scope.names.lookup y.1=some .cell/\((cellsFrom (s.heap.objs.size+1) scope.names []).lookup y.1).isSome=true):=fun⟨n,v⟩ hy=>by
  rcases S.par n (List.of_mem_zip hy).1 with q|q
  . exact .inl q
  . exact .inr ⟨q,PySem.W.cellsFrom_some _ _ _ (.inl q)⟩
 refine codeAny_call_function hr.depth (KX _ _ lk) rfl S.co S.gen rfl (PySem.W.codeRec_of KX hcd) (hb _ _ _ _ ?_);refine wpAny_newFunctionEnv_cells S.kind hkind λenv he s1 x=>?_;subst he;refine⟨lim.keeps x.toInCall.keep,codeAny_func ?_⟩;obtain⟨t,ht,hq⟩:=hbody A outer s H vs Q E (hr.deeper _) hsp;have I:Inv (cxOf CX P w K mg base N qual scope f cdv A outer s H E) [] (start N vs) H s1:=inv_start S hr.hd e0 hl r x;refine bT (ht [] s1 (start N vs) H _ I hq) (λfl s' hs=>?_) λe s' hs=>hs
 have fin:∀{σ':St}{H':Hp}{v:V}{u:Value},Inv (cxOf CX P w K mg base N qual scope f cdv A outer s H E) [] σ' H' s'->RelV v u->Q v H'->CE outer P w H s Q u s' :=
  λ{σ' H' v u} J rv q=>⟨v,H',J.os,J.bare,J.base,J.hok,rv,q⟩
 cases fl with
 | ret u =>
  obtain⟨v,σ',H',J,rv,q⟩:=hs;exact fin J rv q
 | next =>
  obtain⟨σ',H',J,q⟩:=hs;exact fin (v:=V.non) (u:=Value.none) J rfl q
 | brk =>
  obtain⟨_,_,_,q⟩:=hs;exact False.elim q
 | cont =>
  obtain⟨_,_,_,q⟩:=hs;exact False.elim q
section
variable{X:Cx}{x:Str}{p pos:Pos}{e:Expr}{es:List Expr}{t:TA}{id:String}{r:List V->Hp->VK->Prop}
def tCB(r:List V->Hp->VK->Prop)(t:TA):TE:=λσ H Q=>t σ H λvs H1=>r vs H1 Q
theorem pe_callB(hc:CallR X (.builtin id) r)(hg:Gl X x)(hm:X.mg x=none)(hv:bootBuiltins x=some (.builtin id))(ha:PA X (e::es) t) (hn:x≠"__name__":=by decide) (hdb:(x == ("__debug__" : Str))=false:=by decide)
  (he:starEach (e::es) X.env=(false,eval e X.env)::starEach es X.env:=by rfl) (hpl:(backTo pos (starEach es X.env)).any (·.1)=false:=by rfl):PE X (.Call (.Name x p) (e::es) [] pos) (tCB r t):=by
 intro ab s σ H Q I h;refine wpAny_Call_Name_kw (ld_blt I hg hm hv ?_ hn hdb);exact PyProof.Rows.callWith_builtin1 (thn (ha pos ab s σ H _ I h) λus s1 ⟨vs,H1,I1,r1,q1⟩=>hc ab s1 σ H1 vs us Q I1 r1 q1) he hpl
end
end L2
namespace HT
open PySem PyProof.Rows
section
variable{prog:Program}{w:World}{A:Around}{E:Value->Shared->Prop}{s:Shared}
noncomputable def sIx(n d:Nat):Option Int->Nat
 |none=>d
 |some v=>if v<0 then(v+(n:Int)).toNat else min v.toNat n
theorem sIx_none(n d:Nat):sIx n d none=d:=rfl
theorem sIx_le(n d:Nat)(hd:d<=n)(o:Option Int):sIx n d o<=n:=by
 cases o with
 |none=>exact hd
 | some v =>
  show(if v<0 then(v+(n:Int)).toNat else min v.toNat n)<=n
  by_cases hv:v<0
  . rw[if_pos hv];omega
  . rw[if_neg hv];exact Nat.min_le_right _ _
theorem clip_eq(v:Int)(n d:Nat):(if v<0 then max (v+(n:Int)) 0 else min v (n:Int))=((sIx n d (some v):Nat):Int):=by
 show(if v<0 then max (v+(n:Int)) 0 else min v (n:Int))=(((if v<0 then(v+(n:Int)).toNat else min v.toNat n):Nat):Int)
 by_cases hv:v<0
 . simp only[if_pos hv];omega
 . simp only[if_neg hv];omega
theorem adjust_gen(lo hi:Option Int)(n:Nat):Builtin.Slice.sliceAdjust lo hi 1 (n:Int)=(((sIx n 0 lo:Nat):Int),((sIx n n hi:Nat):Int)):=by
 have h1:¬((1:Int)<0):=by omega
 unfold Builtin.Slice.sliceAdjust;simp only[h1,if_false];refine Prod.ext ?_ ?_
 .
  cases lo with
  |none=>rfl
  |some v=>exact clip_eq v n 0
 .
  cases hi with
  |none=>rfl
  |some v=>exact clip_eq v n n
theorem places_gen(i j:Nat):Builtin.Slice.slicePlaces (i:Int) (j:Int) 1=j-i:=by
 unfold Builtin.Slice.slicePlaces;have h1:(1:Int) > 0:=by omega
 simp only[h1,if_true,Int.ediv_one];split<;>omega
theorem slicePart_{v:Value}{o:Option Int}{Q:Option Int->Shared->Prop}(p:IsPart v o)(h:Q o s):wpAny (model prog w) A (Builtin.Slice.slicePartIndex v) Q E s:=by
 cases p with
 |none=>exact slicePart_none h
 |int i t=>exact slicePart_int h
theorem sliceApplied_gen{sl:Addr}{vl vu:Value}{lo hi:Option Int}{n:Nat}{Q:Int×Int×Nat->Shared->Prop}(hs:s.heap.IsSliceOf sl vl vu .none)(pl:IsPart vl lo)(pu:IsPart vu hi)
  (h:Q (((sIx n 0 lo:Nat):Int),1,sIx n n hi-sIx n 0 lo) s):wpAny (model prog w) A (Builtin.Slice.sliceApplied (.ref sl) (pure (n:Int))) Q E s:=by
 obtain⟨os,hos,hcs,hds⟩:=id hs;unfold Builtin.Slice.sliceApplied Builtin.Slice.sliceFields;refine ak (ak (wpAny_field hos hds (x:=vl) rfl (ak (wpAny_field hos hds (x:=vu) rfl (ak (wpAny_field hos hds (x:=.none) rfl (aD ?_)))))));refine ak (slicePart_none ?_)
 show wpAny _ _ (if((1:Int) == 0)=true then _ else _) _ _ s
 rw[if_neg (by decide)];refine ak (slicePart_ pl (ak (slicePart_ pu (ak (aD ?_)))))
 show wpAny _ _ (match Builtin.Slice.sliceAdjust lo hi 1 (n:Int)with|(lo,hi)=>pure (lo,(1:Int),Builtin.Slice.slicePlaces lo hi 1)) _ _ s
 rw[adjust_gen lo hi n];show wpAny _ _ (pure (((sIx n 0 lo:Nat):Int),(1:Int),Builtin.Slice.slicePlaces ((sIx n 0 lo:Nat):Int) ((sIx n n hi:Nat):Int) 1)) _ _ s;rw[places_gen];exact aD h
theorem pick_gen(xs:Array Value)(i k:Nat):((List.range k).filterMap λ(m:Nat)=>xs[((i:Int)+(m:Int)*1).toNat]?).toArray=((xs.toList.drop i).take k).toArray:=by
 have e:(λ(m:Nat)=>xs[((i:Int)+(m:Int)*1).toNat]?)=λm=>xs[i+m]?:=by
  funext m
  have:((i:Int)+(m:Int)*1).toNat=i+m:=by omega
  rw[this]
 rw[e];have:=pick_run xs i k;rw[List.filterMap_map]at this;have e2:((λx=>xs[x]?) ∘ λx=>i+x)=λm=>xs[i+m]?:=rfl;rw[e2]at this;rw[this]
theorem getItem_tuple_cut{t sl:Addr}{items:Array Value}{vl vu:Value}{lo hi:Option Int}{Q:Value->Shared->Prop}(ht:IsTup s.heap t items)(hs:s.heap.IsSliceOf sl vl vu .none)(pl:IsPart vl lo)(pu:IsPart vu hi)
  (hw:¬(sIx items.size 0 lo=0/\sIx items.size items.size hi=items.size))
  (h:Q (.ref s.heap.objs.size) {s with heap:=s.heap.push {cls:=.type "tuple",data:=.seq ((items.toList.drop (sIx items.size 0 lo)).take (sIx items.size items.size hi-sIx items.size 0 lo)).toArray} })
  (hsz:items.size<=sizeLine):wpAny (model prog w) A (getItem (.ref t) (.ref sl)) Q E s:=by
 have htake:sizeOk (.seq ((items.toList.drop (sIx items.size 0 lo)).take (sIx items.size items.size hi-sIx items.size 0 lo)).toArray):=by show((items.toList.drop (sIx items.size 0 lo)).take (sIx items.size items.size hi-sIx items.size 0 lo)).toArray.size<=sizeLine;rw[aB,bZ,aU,bH];omega
 have hj:sIx items.size items.size hi<=items.size:=sIx_le _ _ (ao _) hi;obtain⟨os,hos,hcs,hds⟩:=id hs;have hTs:s.TypeIs (.ref sl) "slice":=⟨os,hos,hcs⟩;unfold getItem
 try with_reducible refine bV ?_
 first|refine ak (aD ?_)|skip
 refine ak (wpAny_sequenceKey ht.typeIs zd ?_)
 refine ak (wpAny_callSpecial?_slot (name:=Str.ofString "__getitem__") ht.typeIs PyProof.Rows.slot_tuple_getitem
  (wpAny_call_entry PyProof.Rows.slot_tuple_getitem ht.typeIs entry_tuple_getitem ?_ (args_tuple_getitem _ _)))
 show wpAny _ _ (Builtin.Tuple.tupleItemsOf (.ref t) >>= _) _ _ s;refine ak (tupleItemsOf_ ht ?_);refine ak (wpAny_typeOf hTs ?_);rw[if_pos (by decide)];refine ak (sliceApplied_gen hs pl pu ?_);have hno:¬((((sIx items.size 0 lo:Nat):Int) == 0 && (1:Int) == 1 && (sIx items.size items.size hi-sIx items.size 0 lo) == items.size)=true):=by intro q;rw[aI,aI]at q;have q1:((sIx items.size 0 lo:Nat):Int)=0:=eq_of_beq q.1.1;have q2:sIx items.size items.size hi-sIx items.size 0 lo=items.size:=eq_of_beq q.2;exact hw ⟨zZ,zZ⟩
 show wpAny _ _ (if(((sIx items.size 0 lo:Nat):Int) == 0 && (1:Int) == 1 && (sIx items.size items.size hi-sIx items.size 0 lo) == items.size)=true then _ else _) _ _ s
 rw[if_neg hno,pick_gen]
 first
  |exact ak (m:=Builtin.Tuple.tupleExact _) (wpAny_newObj_type (aD ⟨_,rfl,aD h⟩) htake)
  |exact ak (m:=Builtin.Tuple.tupleExact _) (wpAny_newObj_type (ak (aD (aD ⟨_,rfl,aD h⟩))) htake)
  |exact ak (ak (m:=Builtin.Tuple.tupleExact _) (wpAny_newObj_type (aD (aD ⟨_,rfl,aD h⟩)) htake))
  |exact ak (ak (m:=Builtin.Tuple.tupleExact _) (wpAny_newObj_type (aD ⟨_,rfl,aD h⟩) htake))
end
end HT
namespace L2
open PySem PySem.Spec PyProof.Rows
noncomputable abbrev TO:=St->Hp->(Option Int->Hp->Prop)->Prop
def PO(X:Cx)(e:Option Expr)(t:TO):Prop :=
 ∀(ab:List (Addr×Obj))(s:Shared)(σ:St)(H:Hp)(Q:Option Int->Hp->Prop),Inv X ab σ H s->t σ H Q ->
  wpAny (model X.prog X.w) X.A (evalPart e X.env) (λu s'=>∃o H',Inv X ab σ H' s'/\IsPart u o/\Q o H') X.xe s
noncomputable def tNoPart:TO:=λ_ H Q=>Q none H
noncomputable def tPart(t:TE):TO:=λσ H Q=>t σ H λx H1=>∃i,x=.int i/\Q (some i) H1
section
variable{X:Cx}{e:Expr}{te:TE}{lo hi:Option Expr}{tl th:TO}{pos p2:Pos}
theorem po_none:PO X none tNoPart:=by intro ab s σ H Q I h;rw[evalPart_none];exact aD ⟨none,H,I,.none,h⟩
theorem po_some(h:PE X e te):PO X (some e) (tPart te):=by intro ab s σ H Q I hw;rw[evalPart_some];refine thn (h ab s σ H _ I hw) λu s1 ⟨x,H1,I1,r1,q1⟩=>?_;obtain⟨i,rfl,q⟩:=q1;obtain⟨t,rfl⟩:=r1;exact⟨some i,H1,I1,.int i t,q⟩
def SlR(X:Cx)(r:V->Option Int->Option Int->Hp->VK->Prop):Prop :=
 ∀(ab:List (Addr×Obj))(s:Shared)(σ:St)(H:Hp)(x:V)(v vl vu:Value)(lo hi:Option Int)(sl:Addr)(Q:VK),Inv X ab σ H s->RelV x v->s.heap.IsSliceOf sl vl vu .none->IsPart vl lo->IsPart vu hi->r x lo hi H Q ->
  ∃ T id,typeLookup (.type T) "__getitem__"=pure (some (.builtin id))/\s.TypeIs v T/\wpAny (model X.prog X.w) X.A (getItem v (.ref sl)) (EP X ab σ Q) X.xe s
theorem SlR.or{r r':V->Option Int->Option Int->Hp->VK->Prop}(h:SlR X r)(h':SlR X r'):SlR X (λx lo hi H Q=>r x lo hi H Q∨r' x lo hi H Q):=by
 intro ab s σ H x v vl vu lo hi sl Q I rx hs pl pu q;rcases q with q|q
 . exact h ab s σ H x v vl vu lo hi sl Q I rx hs pl pu q
 . exact h' ab s σ H x v vl vu lo hi sl Q I rx hs pl pu q
def tSl(r:V->Option Int->Option Int->Hp->VK->Prop)(te:TE)(tl th:TO):TE:=λσ H Q=>te σ H λx H1=>tl σ H1 λl H2=>th σ H2 λu H3=>r x l u H3 Q
theorem pe_slice{r:V->Option Int->Option Int->Hp->VK->Prop}(hr:SlR X r)(he:PE X e te)(hl:PO X lo tl)(hu:PO X hi th):PE X (.Subscript e (.Slice lo hi none p2) pos) (tSl r te tl th):=by intro ab s σ H Q I h;refine Subscript_ (thn (he ab s σ H _ I h) λv s1 ⟨x,H1,I1,r1,q1⟩=>?_);refine wpAny_Slice (thn (hl ab s1 σ H1 _ I1 q1) λvl s2 ⟨l,H2,I2,pl,q2⟩=>thn (hu ab s2 σ H2 _ I2 q2) λvu s3 ⟨u,H3,I3,pu,q3⟩=>?_);rw[evalPart_none];refine aD ?_;have I4:Inv X ab σ H3 {s3 with heap:=s3.heap.push {cls:=.type "slice",data:=.fields #[vl,vu,.none] } }:=I3.kept (t':=s3.toks) λb ob q=>av _ q;obtain⟨T,id,hT,ht,hg⟩:=hr ab {s3 with heap:=s3.heap.push {cls:=.type "slice",data:=.fields #[vl,vu,.none] } } σ H3 x v vl vu l u s3.heap.objs.size Q I4 r1 (Heap.IsSliceOf.new ..) pl pu q3;show wpAny (model X.prog X.w) X.A (subscriptTail e (.Slice lo hi none p2) v (.ref s3.heap.objs.size)) (EP X ab σ Q) X.xe {s3 with heap:=s3.heap.push {cls:=.type "slice",data:=.fields #[vl,vu,.none] } };exact tail_any (ops:=[.ref s3.heap.objs.size,v]) ht hT hg (by with_unfolding_all rfl)
noncomputable def cutV(xs:List V)(lo hi:Option Int):List V:=(xs.drop (HT.sIx xs.length 0 lo)).take (HT.sIx xs.length xs.length hi-HT.sIx xs.length 0 lo)
theorem cutV_length(xs:List V)(lo hi:Option Int):(cutV xs lo hi).length<=xs.length:=by unfold cutV;rw[bZ,aU];omega
def rSlT(K:PySem.W.Frag):V->Option Int->Option Int->Hp->VK->Prop:=λx lo hi H Q=>∃a xs,x=.ref a/\SqT K H a xs /\
 ¬(HT.sIx xs.length 0 lo=0/\HT.sIx xs.length xs.length hi=xs.length)/\∀p,H p=none->Q (.ref p) (upd H p (.tup (cutV xs lo hi)))
theorem sl_tup:SlR X (rSlT X.K):=by
 intro ab s σ H x v vl vu lo hi sl Q I rx hs pl pu h;obtain⟨a,xs,rfl,hx,hw,q⟩:=h;cases rx;obtain⟨its,r,ht,hz⟩:=I.tuple hx;have ae:its.toArray.size=xs.length:=by rw[aB];exact r.length.symm
 refine⟨"tuple",_,PyProof.Rows.slot_tuple_getitem.lookup,ht.typeIs,?_⟩;refine HT.getItem_tuple_cut ht hs pl pu (by rw[ae];exact hw) ?_ (by rw[ae];exact hz);rw[ae];refine⟨.ref s.heap.objs.size,_,I.laid (t':=s.toks) (o:=.tup (cutV xs lo hi)) (λb ob q=>av _ q) (ao _) ?_,rfl,q _ (I.hok.fresh (ao _))⟩;exact⟨aY (cutV_length xs lo hi) hz,_,(r.drop (HT.sIx xs.length 0 lo)).take (HT.sIx xs.length xs.length hi-HT.sIx xs.length 0 lo),IsTup.new _ _⟩
end
noncomputable def ixN(n:Nat)(i:Int):Option Nat:=if 0<=i then(if i<n then some i.toNat else none)else if -(n:Int)<=i then some (i+n).toNat else none
noncomputable def atI{α:Type}(xs:List α)(i:Int):Option α:=(ixN xs.length i).bind λj=>xs[j]?
theorem ixN_seq{n:Nat}{i:Int}{j:Nat}(h:ixN n i=some j):seqIndex? i n=some j/\j<n/\-(n:Int)<=i/\i<n:=by
 unfold ixN at h;by_cases h0:0<=i
 .
  rw[if_pos h0]at h;by_cases h1:i<n
  . rw[if_pos h1]at h;have e:i.toNat=j:=a8 h;exact⟨by rw[seqIndex_of h0 h1,e],zZ,zZ,h1⟩
  . rw[if_neg h1]at h;cases h
 .
  rw[if_neg h0]at h;by_cases h1 : -(n:Int)<=i
  . rw[if_pos h1]at h;have e:(i+n).toNat=j:=a8 h;exact⟨by rw[seqIndex_neg zZ h1,e],zZ,h1,zZ⟩
  . rw[if_neg h1]at h;cases h
theorem atI_get{α:Type}{xs:List α}{i:Int}{v:α}(h:atI xs i=some v):∃j,seqIndex? i xs.length=some j/\xs[j]?=some v/\j<xs.length/\-(xs.length:Int)<=i/\i<xs.length:=by
 unfold atI at h
 cases e:ixN xs.length i with
 |none=>rw[e]at h;cases h
 | some j =>
  rw[e]at h;obtain⟨h1,h2,h3,h4⟩:=ixN_seq e;exact⟨j,h1,h,h2,h3,h4⟩
theorem atI_nat{α:Type}{xs:List α}{j:Nat}{v:α}(h:xs[j]?=some v):atI xs (j:Int)=some v:=by
 have hj:j<xs.length:=(ah.mp h).1;have e:ixN xs.length (j:Int)=some j:=by unfold ixN;rw[if_pos (by omega),if_pos (by omega)];simp
 unfold atI;rw[e];exact h
def PlainIx(b:Expr):Prop:=∀o i,subscripted b false o i=operate [o,i] (getItem o i)
def IxR(X:Cx)(r:R2):Prop :=
 ∀(value slice:Expr)(ab:List (Addr×Obj))(s:Shared)(σ:St)(H:Hp)(x y:V)(v u:Value)(Q:VK),Inv X ab σ H s->RelV x v->RelV y u->r x y H Q ->
  subscripted slice false v u=operate [v,u] (getItem v u)->wpAny (model X.prog X.w) X.A (subscriptTail value slice v u) (EP X ab σ Q) X.xe s
def MtR(X:Cx)(id:String)(r:V->List V->Hp->VK->Prop):Prop :=
 ∀(ab:List (Addr×Obj))(s:Shared)(σ:St)(H:Hp)(x:V)(xs:List V)(v:Value)(us:List Value)(Q:VK),Inv X ab σ H s->RelV x v->Vals xs us->r x xs H Q ->
  wpAny (model X.prog X.w) X.A (call (.builtin id) (v::us)) (EP X ab σ Q) X.xe s
section
variable{X:Cx}{a b:Expr}{ta tb:TE}{pos:Pos}
theorem pe_ix{r:R2}(hr:IxR X r)(ha:PE X a ta)(hb:PE X b tb)(hs:PlainIx b):PE X (.Subscript a b pos) (tOp r ta tb):=by intro ab s σ H Q I h;exact Subscript_ (binT ha hb I h λv u s2 x y H2 I2 rx ry q=>hr a b ab s2 σ H2 x y v u Q I2 rx ry q (hs _ _))
def rIxL(K:PySem.W.Frag):R2:=λx y H Q=>∃p xs i v,x=.ref p/\y=.int i/\SqL K H p xs/\atI xs i=some v/\Q v H
def rIxT(K:PySem.W.Frag):R2:=λx y H Q=>∃p xs i v,x=.ref p/\y=.int i/\SqT K H p xs/\atI xs i=some v/\Q v H
def rIxS:R2:=λx y H Q=>∃z i c,x=.str z/\y=.int i/\z.length<=sizeLine/\atI z.cps.toList i=some c/\Q (.str ⟨#[c]⟩) H
theorem ix_list:IxR X (rIxL X.K):=by
 intro value slice ab s σ H x y v u Q I rx ry h hs;obtain⟨p,xs,i,z,rfl,rfl,hq,he,q⟩:=h;cases rx;obtain⟨t,rfl⟩:=ry;obtain⟨its,r,pl,hz⟩:=I.list hq;obtain⟨j,h1,h2,h3,h4,h5⟩:=atI_get he;obtain⟨w,ew,rw'⟩:=r.get h2;have hl:=r.length;have hn:=line63;have fin:EP X ab σ Q w s:=⟨z,H,I,rw',q⟩;by_cases h0:0<=i
 .
  have hj:i.toNat=j:=by rw[seqIndex_of h0 h5]at h1;exact a8 h1
  exact item_listR pl.isList h0 zZ (by rw[hj];simpa using ew) fin hs
 .
  have hj:(i+(its.toArray.size:Int)).toNat=j:=by rw[seqIndex_neg zZ h4]at h1;rw[aB,<- hl];exact a8 h1
  exact subscriptTail_builtinR (x:=w) pl.isList.typeIs slot_list_getitem.lookup
   (wpAny_getItem_list_neg (Q:=λr s'=>r=w/\EP X ab σ Q r s') pl.isList zZ (by rw[aB]<;>omega) zZ (by rw[hj];simpa using ew) ⟨rfl,fin⟩) hs
theorem ix_tup:IxR X (rIxT X.K):=by
 intro value slice ab s σ H x y v u Q I rx ry h hs;obtain⟨p,xs,i,z,rfl,rfl,hq,he,q⟩:=h;cases rx;obtain⟨t,rfl⟩:=ry;obtain⟨its,r,pl,hz⟩:=I.tuple hq;obtain⟨j,h1,h2,h3,h4,h5⟩:=atI_get he;obtain⟨w,ew,rw'⟩:=r.get h2;have hl:=r.length;have hn:=line63;have fin:EP X ab σ Q w s:=⟨z,H,I,rw',q⟩
 exact subscriptTail_builtinR (x:=w) pl.typeIs slot_tuple_getitem.lookup
  (getItem_tuple (j:=j) (Q:=λr s'=>r=w/\EP X ab σ Q r s') pl zZ zZ (by rw[aB,<- hl];exact h1) (by simpa using ew) ⟨rfl,fin⟩) hs
theorem ix_str:IxR X rIxS:=by
 intro value slice ab s σ H x y v u Q I rx ry h hs;obtain⟨z,i,c,rfl,rfl,hz,he,q⟩:=h;obtain⟨t,rfl⟩:=rx;obtain⟨t',rfl⟩:=ry;obtain⟨j,h1,h2,h3,h4,h5⟩:=atI_get he;have hl:z.cps.toList.length=z.length:=by simp[Str.length]
 rw[hl]at h1 h4 h5;have hn:=line63
 exact tail_any (typeIs_str s z t) slot_str_getitem.lookup (getItem_str (c:=c) (by
  have e1:decide (i < -(2^63:Int))=false:=aZ zZ;have e2:decide (i≥2^63)=false:=aZ zZ
  rw[e1,e2,Bool.or_false]) (by rw[h1];simpa using h2) ⟨.str ⟨#[c]⟩,H,I.tok _,⟨_,rfl⟩,q⟩) hs
theorem mapSeq_set(its:List Value)(n j:Nat)(u:Value):Obj.mapSeq (·.setIfInBounds j u) {cls:=.type "list",data:=.seq its.toArray n}={cls:=.type "list",data:=.seq (its.set j u).toArray n}:=by simp[Obj.mapSeq]
theorem Inv.lst{ab:List (Addr×Obj)}{σ:St}{H:Hp}{s:Shared}{p:Addr}{xs:List V}(I:Inv X ab σ H s)(h:H p=some (.lst xs)) :
  ∃(its:List Value)(n:Nat),Vals xs its/\s.heap.get? p=some {cls:=.type "list",data:=.seq its.toArray n}/\xs.length<=sizeLine:=by
 obtain⟨z,its,n,r,e⟩:=I.hok p _ h;exact⟨its,n,r,e,z⟩
theorem Inv.lstUpd{ab:List (Addr×Obj)}{σ:St}{H:Hp}{s:Shared}{p:Addr}{xs ys:List V}{its its':List Value}{n n':Nat}{f:Obj->Obj}(I:Inv X ab σ H s)(h:H p=some (.lst xs))
  (ho:s.heap.get? p=some {cls:=.type "list",data:=.seq its.toArray n}) (hf:f {cls:=.type "list",data:=.seq its.toArray n}={cls:=.type "list",data:=.seq its'.toArray n' }) (r:Vals ys its') (hz:ys.length<=sizeLine) (t:Nat) :
  Inv X ab σ (upd H p (.lst ys)) {s with heap:=s.heap.update p f,toks:=t}:=by
 have e:(s.heap.update p f).get? p=some {cls:=.type "list",data:=.seq its'.toArray n' }:=by rw[Heap.get?_update_self f ho (by rw[hf]<;>rfl),hf]
 refine I.write (x:=p) (e:=p) (by rw[h];trivial) (.inl rfl) (λb u hb q=>(Heap.get?_update_other _ _ (Ne.symm hb)).trans q) ⟨_,e⟩ ?_;exact⟨hz,its',n',r,e⟩
def rSetL:V->V->V->Hp->(Hp->Prop)->Prop:=λo i v H Q=>∃p xs k j,o=.ref p/\i=.int k/\H p=some (.lst xs)/\ixN xs.length k=some j/\Q (upd H p (.lst (xs.set j v)))
theorem set_list:PSet X rSetL:=by
 intro ab s σ H o i v ov iv u Q I ro ri rv h;obtain⟨p,xs,k,j,rfl,rfl,hp,hj,q⟩:=h;cases ro;obtain⟨t,rfl⟩:=ri;obtain⟨its,n,r,ho,hz⟩:=I.lst hp;obtain⟨h1,h2,h3,h4⟩:=ixN_seq hj;have hl:=r.length;have hn:=line63
 have I':Inv X ab σ (upd H p (.lst (xs.set j v))) {s with heap:=s.heap.update p (Obj.mapSeq (·.setIfInBounds j u)) } :=
  I.lstUpd hp ho (mapSeq_set its n j u) (r.set rv j) (by rw[List.length_set];exact hz) s.toks
 by_cases h0:0<=k
 .
  have hk:k.toNat=j:=by rw[seqIndex_of h0 h4]at h1;exact a8 h1
  exact PySem.W.ki_setAt ho h0 zZ (by rw[aB,<- hl];exact h4) (by rw[hk];exact⟨_,I',q⟩)
 .
  have hk:(k+(its.toArray.size:Int)).toNat=j:=by rw[seqIndex_neg zZ h3]at h1;rw[aB,<- hl];exact a8 h1
  exact PySem.W.ki_setBack ho zZ (by rw[aB,<- hl];exact h3) zZ (by rw[hk];exact⟨_,I',q⟩)
theorem slice_bounds(lo hi:Option Int)(n:Nat):(sliceBounds lo hi none n).1=((HT.sIx n 0 lo:Nat):Int)/\(sliceBounds lo hi none n).2.1=((HT.sIx n n hi:Nat):Int)/\(sliceBounds lo hi none n).2.2=1:=by
 refine⟨?_,?_,rfl⟩
 .
  cases lo with
  |none=>simp[sliceBounds,HT.sIx]
  | some i =>
   simp only[sliceBounds,HT.sIx,Option.getD_none,show(1:Int) > 0 by decide,if_true];by_cases h:i<0
   . simp only[h,if_true]<;>omega
   . simp only[h,if_false]<;>omega
 .
  cases hi with
  |none=>simp[sliceBounds,HT.sIx]
  | some i =>
   simp only[sliceBounds,HT.sIx,Option.getD_none,show(1:Int) > 0 by decide,if_true];by_cases h:i<0
   . simp only[h,if_true]<;>omega
   . simp only[h,if_false]<;>omega
theorem slicePick_cut(its:List Value)(lo hi:Option Int):slicePick its.toArray lo hi none=((its.drop (HT.sIx its.length 0 lo)).take (HT.sIx its.length its.length hi-HT.sIx its.length 0 lo)).toArray:=by obtain⟨h1,h2,h3⟩:=slice_bounds lo hi its.toArray.size;unfold slicePick;rw[h1,h2,h3];simp only[sliceRange_one,pick_run,aB]<;>rfl
def rSlL(K:PySem.W.Frag):V->Option Int->Option Int->Hp->VK->Prop:=λx lo hi H Q=>∃a xs,x=.ref a/\SqL K H a xs/\∀p,H p=none->Q (.ref p) (upd H p (.lst (cutV xs lo hi)))
theorem sl_list:SlR X (rSlL X.K):=by intro ab s σ H x v vl vu lo hi sl Q I rx hs pl pu h;obtain⟨a,xs,rfl,hx,q⟩:=h;cases rx;obtain⟨its,r,ht,hz⟩:=I.list hx;have ae:=r.length;refine⟨"list",_,slot_list_getitem.lookup,ht.isList.typeIs,?_⟩;refine wpAny_getItem_list_slice ht.isList hs pl pu .none zY ?_ (by rw[aB]<;>omega);rw[slicePick_cut,<- ae];refine⟨.ref s.heap.objs.size,_,I.laid (t':=s.toks) (o:=.lst (cutV xs lo hi)) (λb ob q=>av _ q) (ao _) ?_,rfl,q _ (I.hok.fresh (ao _))⟩;exact⟨aY (cutV_length xs lo hi) hz,_,0,(r.drop (HT.sIx xs.length 0 lo)).take (HT.sIx xs.length xs.length hi-HT.sIx xs.length 0 lo),aS _ rfl⟩
noncomputable def flatV:V->Bool
 |.non=>true
 |.bl _=>true
 |.int _=>true
 |.str _=>true
 |_=>false
noncomputable def eqV:V->V->Bool
 |.non,.non=>true
 |.bl a,.bl b=>a == b
 |.bl a,.int b=>(if a then 1 else 0) == b
 |.int a,.bl b=>a == (if b then 1 else 0)
 |.int a,.int b=>a == b
 |.str a,.str b=>a == b
 |_,_=>false
theorem eqAt_V{A:Around}{s:Shared}{y x:V}{u v:Value}(ry:RelV y u)(rx:RelV x v)(fy:flatV y=true)(fx:flatV x=true):SeqAt.EqAt A s u v (eqV y x):=by
 cases y with
 | non =>
  cases ry
  cases x with
  |non=>cases rx;exact SeqAt.EqAt.same _
  |bl b=>cases rx;exact SeqAt.EqAt.none_bool b
  |int b=>obtain⟨t,rfl⟩:=rx;exact SeqAt.EqAt.none_int b t
  |str b=>obtain⟨t,rfl⟩:=rx;exact SeqAt.EqAt.none_str b t
  |_=>exact absurd (show false=true from fx) aH
 | bl a =>
  cases ry
  cases x with
  |non=>cases rx;exact SeqAt.EqAt.bool_none a
  |bl b=>cases rx;exact SeqAt.EqAt.bool_bool a b
  |int b=>obtain⟨t,rfl⟩:=rx;exact SeqAt.EqAt.bool_int a b t
  |str b=>obtain⟨t,rfl⟩:=rx;exact SeqAt.EqAt.bool_str a b t
  |_=>exact absurd (show false=true from fx) aH
 | int a =>
  obtain⟨t',rfl⟩:=ry
  cases x with
  |non=>cases rx;exact SeqAt.EqAt.int_none a t'
  |bl b=>cases rx;exact SeqAt.EqAt.int_bool a t' b
  |int b=>obtain⟨t,rfl⟩:=rx;exact SeqAt.EqAt.int_int a t' b t
  |str b=>obtain⟨t,rfl⟩:=rx;exact SeqAt.EqAt.int_str a t' b t
  |_=>exact absurd (show false=true from fx) aH
 | str a =>
  obtain⟨t',rfl⟩:=ry
  cases x with
  |non=>cases rx;exact SeqAt.EqAt.str_none a t'
  |bl b=>cases rx;exact SeqAt.EqAt.str_bool a t' b
  |int b=>obtain⟨t,rfl⟩:=rx;exact SeqAt.EqAt.str_int a t' b t
  |str b=>obtain⟨t,rfl⟩:=rx;exact SeqAt.EqAt.str_str a t' b t
  |_=>exact absurd (show false=true from fx) aH
 |_=>exact absurd (show false=true from fy) aH
noncomputable def eqU(x:V)(u:Value):Bool:=match u with
 |.none=>eqV .non x
 |.bool b=>eqV (.bl b) x
 |.int i _=>eqV (.int i) x
 |.str z _=>eqV (.str z) x
 |_=>false
theorem eqU_of{x y:V}{u:Value}(r:RelV y u)(f:flatV y=true):eqU x u=eqV y x:=by
 cases y with
 |non=>cases r;rfl
 |bl b=>cases r;rfl
 |int i=>obtain⟨t,rfl⟩:=r;rfl
 |str z=>obtain⟨t,rfl⟩:=r;rfl
 |_=>exact absurd (show false=true from f) aH
theorem any_eqU{x:V}:∀{xs:List V}{us:List Value},Vals xs us->xs.all flatV=true->us.any (eqU x)=xs.any λy=>eqV y x
 |_,_,.nil,_=>rfl
 | y::xs,u::us,.cons r t,f=>by rw[List.all_cons,aI]at f;rw[bU,bU,eqU_of r f.1,any_eqU t f.2]
theorem mem_eqAt{A:Around}{s:Shared}{x:V}{v:Value}(rx:RelV x v)(fx:flatV x=true):∀{xs:List V}{us:List Value},Vals xs us->xs.all flatV=true->∀u∈us,SeqAt.EqAt A s u v (eqU x u)
 |_,_,.nil,_=>λu hu=>by cases hu
 | y::xs,u::us,.cons r t,f=>λu' hu=>by
  rw[List.all_cons,aI]at f;rcases az.mp hu with rfl|hu
  . rw[eqU_of r f.1];exact eqAt_V r rx f.1 fx
  . exact mem_eqAt rx fx t f.2 u' hu
noncomputable def inV(x:V)(xs:List V):Bool:=xs.any λy=>eqV y x
def rIn(K:PySem.W.Frag)(neg:Bool):R2:=λx y H Q=>∃p xs,y=.ref p/\(SqL K H p xs∨SqT K H p xs)/\flatV x=true/\xs.all flatV=true/\Q (.bl (if neg then !inV x xs else inV x xs)) H
theorem op_in_seq:OpR X (compareOp .In) (rIn X.K false):=by
 intro ab s σ H x y v u Q I rx ry h;obtain⟨p,xs,rfl,hq,fx,fs,q⟩:=h;cases ry;rcases hq with hq|hq
 . obtain⟨its,r,pl,hz⟩:=I.list hq;refine SeqAt.in_listAt (eqU x) pl.isList (λw hw=>mem_eqAt rx fx r fs w (by simpa using hw)) ⟨.bl _,H,I,rfl,?_⟩;rw[show its.toArray.any (eqU x)=its.any (eqU x) by simp,any_eqU r fs];exact q
 . obtain⟨its,r,pl,hz⟩:=I.tuple hq;refine SeqAt.in_tupleAt (eqU x) pl (λw hw=>mem_eqAt rx fx r fs w (by simpa using hw)) ⟨.bl _,H,I,rfl,?_⟩;rw[show its.toArray.any (eqU x)=its.any (eqU x) by simp,any_eqU r fs];exact q
theorem call_len_seq:CallR X (.builtin "len") (λxs H Q=>∃ p ys,xs=[.ref p]/\(SqL X.K H p ys∨SqT X.K H p ys)/\Q (.int ys.length) H):=by
 intro ab s σ H xs us Q I r h;obtain⟨p,ys,rfl,hq,q⟩:=h;obtain⟨u,rfl,rx⟩:=vals1 r;cases rx;have hn:=line63;rcases hq with hq|hq
 . obtain⟨its,r',pl,hz⟩:=I.list hq;have ae:=r'.length;exact Calls.call_len_list pl.isList (by simp only[aB]<;>omega) ⟨.int ys.length,H,I.tok _,⟨s.toks+1,by rw[aB,ae]⟩,q⟩
 . obtain⟨its,r',pl,hz⟩:=I.tuple hq;have ae:=r'.length;exact len_tuple pl (by simp only[aB]<;>omega) ⟨.int ys.length,H,I.tok _,⟨s.toks+1,by rw[aB,ae]⟩,q⟩
theorem call_len_str:CallR X (.builtin "len") (λxs H Q=>∃ z,xs=[.str z]/\z.length<=sizeLine/\Q (.int z.length) H):=by intro ab s σ H xs us Q I r h;obtain⟨z,rfl,hz,q⟩:=h;obtain⟨u,rfl,t,rfl⟩:=vals1 r;have hn:=line63;exact len_str zZ ⟨.int z.length,H,I.tok _,⟨_,rfl⟩,q⟩
theorem CallR.or{f:Value}{r r':List V->Hp->VK->Prop}(h:CallR X f r)(h':CallR X f r'):CallR X f (λxs H Q=>r xs H Q∨r' xs H Q):=by
 intro ab s σ H xs us Q I rs q;rcases q with q|q
 . exact h ab s σ H xs us Q I rs q
 . exact h' ab s σ H xs us Q I rs q
def tyV(K:PySem.W.Frag)(T:String)(x:V)(H:Hp):Prop:=match x with
 |.str _=>T="str"
 |.int _=>T="int"
 | .ref p=>(T="list"/\∃ xs,SqL K H p xs)∨(T="tuple"/\∃ o,K.lookup p=some o/\o.cls=.type "tuple"/\o.dict=none) ∨
   (T="dict"/\((∃ kvs,H p=some (.dK kvs))∨∃ kvs,H p=some (.dT kvs)))∨(T="set"/\∃ S n,H p=some (.set S n))
 |_=>False
theorem tyV_is{ab:List (Addr×Obj)}{σ:St}{H:Hp}{s:Shared}{T:String}{x:V}{v:Value}(I:Inv X ab σ H s)(r:RelV x v)(ty:tyV X.K T x H) :
  s.TypeIs v T/\∀a,v=.ref a->∃ob,s.heap.get? a=some ob/\ob.dict=none:=by
 cases x with
 | str z =>
  obtain⟨t,rfl⟩:=r;cases(show T="str" from ty);exact⟨typeIs_str s z t,λ_ e=>nomatch e⟩
 | int i =>
  obtain⟨t,rfl⟩:=r;cases(show T="int" from ty);exact⟨typeIs_int s i t,λ_ e=>nomatch e⟩
 | ref p =>
  cases r;rcases ty with⟨rfl,xs,hq⟩|⟨rfl,o,hk,hc,hd⟩|⟨rfl,hk⟩|⟨rfl,S,n,hk⟩
  . obtain⟨its,_,pl,_⟩:=I.list hq;refine⟨pl.isList.typeIs,λa e=>?_⟩;cases e;obtain⟨o,n,e,c,hd,_⟩:=pl;exact⟨o,e,hd⟩
  . refine⟨⟨o,I.kIn p o hk,hc⟩,λa e=>?_⟩;cases e;exact⟨o,I.kIn _ o hk,hd⟩
  .
   have z:∃o,s.heap.get? p=some o/\o.ExactDict:=by
    rcases hk with⟨kvs,hk⟩|⟨kvs,hk⟩
    . obtain⟨_,_,_,_,o,_,_,e,ex,_⟩:=I.hok p _ hk;exact⟨o,e,ex⟩
    . obtain⟨_,_,_,_,o,_,_,e,ex,_⟩:=I.hok p _ hk;exact⟨o,e,ex⟩
   obtain⟨o,e,ex⟩:=z;refine⟨⟨o,e,ex.1⟩,λa e2=>?_⟩;cases e2;exact⟨o,e,ex.2.1⟩
  . obtain⟨o,_,_,_,e,ex,_⟩:=I.hok p _ hk;refine⟨⟨o,e,ex.1⟩,λa e2=>?_⟩;cases e2;exact⟨o,e,ex.2.1⟩
 |_=>exact False.elim ty
def tBM0(K:PySem.W.Frag)(T:String)(r:V->List V->Hp->VK->Prop)(to:TE):TE:=λσ H Q=>to σ H λx H1=>tyV K T x H1/\r x [] H1 Q
def tBM(K:PySem.W.Frag)(T:String)(r:V->List V->Hp->VK->Prop)(to:TE)(t:TA):TE:=λσ H Q=>to σ H λx H1=>tyV K T x H1/\t σ H1 λxs H2=>r x xs H2 Q
variable{o e:Expr}{es:List Expr}{to:TE}{t:TA}{name:Str}{apos cpos:Pos}{T id:String}{r:V->List V->Hp->VK->Prop}
theorem pe_bm0(pa:PlainAttrs T)(slot:Slot T name id) (hty:typeOf (.builtin id)=pure (.type "method_descriptor")) (hm:MtR X id r) (ho:PE X o to)
  (hbase:attributeBase o name X.env (eval o X.env)=eval o X.env:=by rfl) (hline:(apos.endLine == cpos.line)=true:=by rfl):PE X (.Call (.Attribute o name apos) [] [] cpos) (tBM0 X.K T r to):=by
 intro ab s σ H Q I h;refine wpAny_Call_method0_late hbase hline (thn (ho ab s σ H _ I h) λv s1 ⟨x,H1,I1,r1,ty,q1⟩=>?_);obtain⟨h1,h2⟩:=tyV_is I1 r1 ty;exact⟨T,id,pa,slot,hty,h1,h2,Calls.callWith_builtin rfl (PySem.evalArgs_none (hm ab s1 σ H1 x [] v [] Q I1 r1 .nil q1))⟩
theorem pe_bm(pa:PlainAttrs T)(slot:Slot T name id) (hty:typeOf (.builtin id)=pure (.type "method_descriptor")) (hm:MtR X id r) (ho:PE X o to) (ha:PA X (e::es) t)
  (hbase:attributeBase o name X.env (eval o X.env)=eval o X.env:=by rfl)
  (hfew:((backTo cpos (starEach (e::es) X.env)).all (λx=>!x.1) && (backToKw cpos (keywordEach [] X.env)).all (λx=>x.1.isSome)
   && decide ((e::es).length+([]:List Keyword).length+(if([]:List Keyword).isEmpty then 0 else 1)<30))=true:=by rfl)
  (hline:(apos.endLine == cpos.line)=true:=by rfl) (hs:starEach (e::es) X.env=(false,eval e X.env)::starEach es X.env:=by rfl) (hplain:(backTo cpos (starEach es X.env)).any (·.1)=false:=by rfl) :
  PE X (.Call (.Attribute o name apos) (e::es) [] cpos) (tBM X.K T r to t):=by
 intro ab s σ H Q I h;refine wpAny_Call_method_late hbase hfew hline rfl (thn (ho ab s σ H _ I h) λv s1 ⟨x,H1,I1,r1,ty,q1⟩=>?_);obtain⟨h1,h2⟩:=tyV_is I1 r1 ty;refine⟨T,id,pa,slot,hty,h1,h2,?_⟩;have hA:=ha cpos ab s1 σ H1 _ I1 q1;rw[hs]at hA ⊢;refine Calls.callWith_builtin (by show(false ||(backTo cpos (starEach es X.env)).any (·.1))=false;rw[hplain]<;>rfl) (Calls.evalArgs_plain ?_);exact thn hA λus s2 ⟨vs,H2,I2,r2,q2⟩=>hm ab s2 σ H2 x vs v us Q I2 r1 r2 q2
/- xs.append(e),list.index on a module's tuple .. are MtR facts of 06m -/
end
def MtM(X:Cx)(id:String)(r:V->List V->Hp->VK->Prop):Prop :=
 ∀(ab:List (Addr×Obj))(s:Shared)(σ:St)(H:Hp)(x:V)(xs:List V)(v:Value)(us:List Value)(Q:VK),Inv X ab σ H s->RelV x v->Vals xs us->r x xs H Q ->
  wpAny (model X.prog X.w) X.A (call (.builtin id) (v::us)) (EP X ab σ Q) X.xe s
theorem Vals.one:∀{x:V}{us:List Value},Vals [x] us->∃u,us=[u]/\RelV x u
 |_,_,.cons r .nil=>⟨_,rfl,r⟩
theorem Vals.zero:∀{us:List Value},Vals [] us->us=[]
 |_,.nil=>rfl
theorem Vals.dropLast{xs:List V}{us:List Value}(h:Vals xs us):Vals xs.dropLast us.dropLast:=by
 induction h with
 |nil=>exact .nil
 | cons r t ih =>
  cases t with
  |nil=>exact .nil
  |cons q t'=>exact .cons r ih
theorem erase_last{α:Type}(l:List α):l.eraseIdx (l.length-1)=l.dropLast:=by
 induction l with
 |nil=>rfl
 | cons a r ih =>
  cases r with
  |nil=>rfl
  | cons b r =>
   have e:(a::b::r).length-1=((b::r).length-1)+1:=by have h1:(a::b::r).length=r.length+2:=rfl;have h2:(b::r).length=r.length+1:=rfl;omega
   rw[e,List.eraseIdx_cons_succ,ih]
   all_goals rfl
section
variable{X:Cx}{ab:List (Addr×Obj)}{σ:St}{H:Hp}{s:Shared}{l:Addr}{xs ys:List V}
theorem Inv.lset{its its':List Value}{n:Nat}{f:Array Value->Array Value}{t':Nat}(I:Inv X ab σ H s)(hH:H l=some (.lst xs))
  (e:s.heap.get? l=some {cls:=.type "list",data:=.seq its.toArray n}) (hf:f its.toArray=its'.toArray) (hv:Vals ys its') (hz:ys.length<=sizeLine) :
  Inv X ab σ (upd H l (.lst ys)) {s with heap:=s.heap.update l (Obj.mapSeq f),toks:=t' }:=by
 have q:=PySem.IsL.update e f;rw[hf]at q;refine I.write (x:=l) (e:=l) (by rw[hH];exact trivial) (.inl rfl) (λb' u hb hu=>(Heap.get?_update_other s.heap (Obj.mapSeq f) (Ne.symm hb)).trans hu) ⟨_,q⟩ ?_;exact⟨hz,its',_,hv,q⟩
theorem Inv.lnew{its:List Value}{t':Nat}(I:Inv X ab σ H s)(hv:Vals ys its)(hz:ys.length<=sizeLine) :
  Inv X ab σ (upd H s.heap.objs.size (.lst ys)) {s with heap:=s.heap.push {cls:=.type "list",data:=.seq its.toArray},toks:=t' } :=
 I.laid (λ_ _ q=>av _ q) (ao _) ⟨hz,its,0,hv,aS _ rfl⟩
theorem Inv.fresh(I:Inv X ab σ H s):H s.heap.objs.size=none:=I.hok.fresh (ao _)
theorem Inv.lstM(I:Inv X ab σ H s)(hH:H l=some (.lst xs)):xs.length<=sizeLine/\∃(its:List Value)(n:Nat),Vals xs its/\xs.length=its.length/\s.heap.get? l=some {cls:=.type "list",data:=.seq its.toArray n}:=by obtain⟨z,its,n,r,e⟩:=I.hok l _ hH;exact⟨z,its,n,r,r.length,e⟩
end
section
variable{X:Cx}
def rAppend:V->List V->Hp->VK->Prop:=λx vs H Q=>∃l xs y,x=.ref l/\vs=[y]/\H l=some (.lst xs)/\xs.length<sizeLine/\Q .non (upd H l (.lst (xs++[y])))
theorem mt_append:MtM X "list.append" rAppend:=by intro ab s σ H x vs v us Q I rx rv h;obtain⟨l,xs,y,rfl,rfl,hH,hz,q⟩:=h;cases rx;obtain⟨u,rfl,ru⟩:=rv.one;obtain⟨z,its,n,r,hl,e⟩:=I.lstM hH;refine call_meets F.slot_list_append ⟨_,e,rfl⟩ F.entry_list_append (F.args_list_append_2 _ _) (PySem.list_append l its.toArray n u (by rw[aB];omega)) ⟨e,?_⟩;refine⟨.non,_,I.lset (its':=its++[u]) hH e zY (r.append (.cons ru .nil)) ?_,rfl,q⟩;rw[aC,List.length_singleton];omega
def rPop:V->List V->Hp->VK->Prop:=λx vs H Q=>∃l xs y,x=.ref l/\vs=[]/\H l=some (.lst xs)/\xs[xs.length-1]?=some y/\Q y (upd H l (.lst xs.dropLast))
theorem mt_pop:MtM X "list.pop" rPop:=by
 intro ab s σ H x vs v us Q I rx rv h;obtain⟨l,xs,y,rfl,rfl,hH,hy,q⟩:=h;cases rx;have hus:=rv.zero;subst hus;obtain⟨z,its,n,r,hl,e⟩:=I.lstM hH;obtain⟨u,hu,ru⟩:=r.get hy;have hy':its.toArray[its.toArray.size-1]?=some u:=by show its.toArray[its.length-1]?=some u;rw[<- Array.getElem?_toList,<- hl];exact hu
 refine call_meets F.slot_list_pop ⟨_,e,rfl⟩ F.entry_list_pop (F.args_list_pop_1 _) (MeetsSeq.list_pop_last l its.toArray n u hy' (by rw[aB];omega)) ⟨e,?_⟩;refine⟨y,_,I.lset (its':=its.dropLast) hH e ?_ r.dropLast ?_,ru,q⟩
 . show its.toArray.eraseIdxIfInBounds (its.toArray.size-1)=its.dropLast.toArray;rw[aB,List.eraseIdxIfInBounds_toArray,erase_last]
 . rw[List.length_dropLast];omega
end
end L2
namespace Att
open PySem PySem.W PySem.Calls PyProof.Rows
theorem ints_of_wellAll{P:Params}{h:Heap}:∀(ns:List Int)(vs:List Value),WellAll P h vs (ns.map WData.int)->IntsAre vs ns:=by
 intro ns
 induction ns with
 | nil =>
  intro vs w;rw[List.map_nil]at w;cases w;exact .nil
 | cons n ns ih =>
  intro vs w;rw[aL]at w
  cases w with
  | cons a b =>
   cases a;exact .cons _ _ (ih _ b)
theorem script_of{l:OpenLaw}{n:Nat}(hn:l.most=some n){P:Params}{h:Heap}{args:List WData}{vals:List Value}
  (hpre:l.row.toRowW.claim.pre args=true) (hwl:WellAll P h vals args) :
  ∃ a vs ns,vals=[Value.ref a]/\args=[WData.list (ns.map WData.int)]/\h.get? a=some {cls:=.type "list",data:=.seq vs.toArray}/\IntsAre vs ns/\ns.length<=n:=by
 have hsh:WShape.hasAll [] args [.list .int]=true:=(pre_splitW hpre).1;have hc:l.pre.holds [] {args:=args}=true:=(pre_splitW hpre).2;obtain⟨d,r,rfl,h1,h2⟩:=hasAllW_cons hsh;obtain rfl:=hasAllW_nil h2;obtain⟨xs,rfl,h3⟩:=hasW_list h1;obtain⟨ns,rfl⟩:=items_int h3
 have ae:ns.length<=n:=by
  unfold OpenLaw.pre at hc;have h4:(WTm.not (.lt (.lit (.int (n:Int))) (.len (.arg 0)))).holds [] {args:=[.list (ns.map .int)] }=true:=by have h4:=(holds_andW hc).1;rw[hn]at h4;exact h4
  have h5:=condW_of h4 (w_not (w_lt w_lit (w_len_list (w_arg rfl))));rw[aF]at h5;refine Nat.le_of_not_lt λq=>?_;have q':(n:Int)<((ns.length:Nat):Int):=by omega
  first
   |(rw[bz q']at h5;exact absurd h5 zd)
   |(simp at h5;omega)
 cases hwl with
 | cons w1 w2 =>
  cases w2
  cases w1 with
  |list ho hall=>exact⟨_,_,ns,rfl,rfl,ho,ints_of_wellAll ns _ hall,ae⟩
theorem post_true(l:OpenLaw)(args:List WData):l.row.toRowW.claim.post args (.bool true) args=true :=
 postW_of (r:=l.row.toRowW) (X:=(true == true))
  (show WShape.has [] (.bool true) .bool=true by first|rfl|decide|simp[WShape.has,WShape.arms,WShape.armsAll])
  (show(WTm.eq .res (.lit (.bool true))).value [] {args:=args,res:=some (.bool true),after:=args}=some (.bool (true == true))from w_eq_bool (w_res rfl) w_lit) rfl
theorem attach_call{l:OpenLaw}{n:Nat}{q:Program}{loose:List Str}{XP:(Str->Option Value)->Heap->Prop}{YP:World->Heap->Prop}{d:DefRec}
  (hn:l.most=some n) (hdf:d.params.defaults=[])
  (call:∀(w:World)(s₀ s₁:Shared)(mg mb:Str->Option Value)(fa:Addr)(o:Obj)(pm cd doc:Value)(a:Addr)(vs:List Value)(ns:List Int),
   Ground q loose [] XP w s₀ mg mb s₁.heap->YP w s₁.heap ->
   s₁.heap.get? fa=some o->o.data=.func (docDef d.name d.params d.body d.scope pm cd doc)->s₁.heap.CodeRec cd d.name->mg d.name=some (.ref fa) ->
   s₁.heap.get? a=some {cls:=.type "list",data:=.seq vs.toArray}->IntsAre vs ns->ns.length<=n->s₁.gens=#[] ->
   codeAny (model l.prog w) callerA (.call (.ref fa) ⟨[.ref a],[]⟩) (λr s'=>r=.ok (.ret (.bool true))/\OldK s₁.heap s'.heap/\s'.os=s₁.os/\AllBare s'.gens) s₁) :
  WalkO q loose XP YP l.row.toRowW d [] (λf vs=>PySem.call f vs):=by
 intro w s₀ s₁ mg mb G Y fa o pm cd doc dV kV ho hd hcd hD hmg hg args vals as hpre hlay hrd hwl hlo;obtain rfl:dV=.none:=Dflts.none hD hdf;obtain rfl:kV=.none:=Dflts.noKw hD;obtain⟨a,vs,ns,rfl,rfl,hobj,hints,ae⟩:=script_of hn hpre hwl;refine enter_call (codeAny_mono (call w s₀ s₁ mg mb fa o pm cd doc a vs ns G Y ho (fd_plain hd) hcd hmg hobj hints ae hg) λr s' hq=>?_);obtain⟨rfl,h2,h3,h4⟩:=hq;exact⟨.inl ⟨.bool true,.bool true,[],rfl,λ_=>rfl,.bool true,post_true l _,λ_=>⟨List.Pairwise.nil,λ_ hm=>(nomatch hm)⟩⟩,h2,h3,h4⟩
section
noncomputable def ledger(h:Heap)(L d:Addr):List (Addr×Obj):=(List.range h.objs.size).filterMap λa=>if a=L∨a=d then none else(h.get? a).map λo=>(a,o)
end
end Att
namespace L2
open PySem PySem.Spec PyProof.Rows
theorem vals_ints:∀{vs:List Value}{ns:List Int},IntsAre vs ns->Vals (ns.map V.int) vs
 |_,_,.nil=>.nil
 |_,_,.cons n t h=>.cons ⟨t,rfl⟩ (vals_ints h)
def Only(H:Hp):Prop:=∀b,H b=none∨(∃o xs,H b=some (.frz o (.lst xs)))∨∃q,H b=some (.tbl q)
noncomputable def tabsK(K:PySem.W.Frag):List (Addr×Str):=lamNames.filterMap λx=>(PySem.W.tabIn K x).map λp=>(p.2,lamQ x)
noncomputable def tabsOk(K:PySem.W.Frag):Bool:=decide ((tabsK K).map (·.1)).Nodup && (tabsK K).all λp=>(K.lookup p.1).isNone
theorem mem_tabsK{K:PySem.W.Frag}{P:Addr}{q:Str}(h:(P,q)∈tabsK K):∃x∈lamNames,∃c,PySem.W.tabIn K x=some (c,P)/\q=lamQ x:=by
 obtain⟨x,hx,e⟩:=List.mem_filterMap.mp h
 cases z:PySem.W.tabIn K x with
 |none=>rw[z]at e;cases e
 |some p=>rw[z]at e;cases e;exact⟨x,hx,p.1,z,rfl⟩
theorem mem_of_lookup'{α β:Type}[BEq α][LawfulBEq α]:∀{l:List (α×β)}{a:α}{b:β},l.lookup a=some b->(a,b)∈l
 |[],_,_,h=>nomatch h
 | (x,y)::r,a,b,h=>by
  rw[aT]at h
  cases hb:a == x with
  |true=>rw[hb]at h;cases h;rw[eq_of_beq hb];exact .head _
  |false=>rw[hb]at h;exact .tail _ (mem_of_lookup' h)
theorem lookup_of_nodup{α β:Type}[BEq α][LawfulBEq α]:∀{l:List (α×β)}{a:α}{b:β},(l.map (·.1)).Nodup->(a,b)∈l->l.lookup a=some b
 |[],_,_,_,h=>nomatch h
 | (x,y)::r,a,b,nd,h=>by
  rw[aL,aO]at nd;rw[aT];rcases az.mp h with e|h
  . cases e;simp
  . have:a≠x:=λz=>nd.1 (z ▸ List.mem_map_of_mem (f:=(·.1)) h);rw[show(a == x)=false from beq_false_of_ne this];exact lookup_of_nodup nd.2 h
theorem tabIn_some{K:PySem.W.Frag}{x:Str}{c P:Addr}(h:PySem.W.tabIn K x=some (c,P)):K.lookup c≠none:=by
 unfold PySem.W.tabIn at h;split at h
 .
  split at h
  .
   split at h
   .
    split at h
    .
     rename_i hco;split at h
     . cases h;intro z;rw[hco]at z;cases z
     . cases h
    . cases h
   . cases h
  . cases h
 . cases h
theorem law_call{P:Program}{w:World}{K:PySem.W.Frag}{mg mb:Str->Option Value}{CX:CXT}{k:Nat}{fa a:Addr}{fd:FuncData}{x:Str}{sp:Sp}{s₁:Shared}{vs:List Value}{ns:List Int}
  (KX:K.In s₁.heap) (hns:s₁.heap.Ns mainGlobals mg) (hb:s₁.heap.Ns builtinsNs mb) (hbb:∀ x:Str,x≠"__name__"->mb x=bootBuiltins x) (hlim:s₁.heap.NoLimit) (hsys:∃ mm,s₁.heap.Ns sysModules mm) (hbm:BMain mg s₁.heap) (hto:tabsOk K=true)
  (htb:∀x∈lamNames,∀c P,PySem.W.tabIn K x=some (c,P)->PySem.W.CodeHd s₁.heap c P/\s₁.heap.get? P=some (PySem.W.tabObj #[])) (hg:s₁.gens=#[])
  (ha:s₁.heap.get? a=some {cls:=.type "list",data:=.seq vs.toArray}) (hi:IntsAre vs ns) (hl:ns.length<=sizeLine) (hr:Room k callerA)
  (F:∀base:Heap,K.In base->base.Ns mainGlobals mg->FnOk P w K mg base CX k fa fd [x] sp) (hbind:∀(s:Shared)(u:Value),BindsTo s fd ⟨[u],[]⟩ [(x,u)])
  (hsp:∀H:Hp,Only H->SqL K H a (ns.map V.int)->sp [.ref a] H (λv _=>v=.bl true) λ_ _ _=>False)
  (hCX:∀H e s',CX [] H s₁ (λ_ _ _=>False) e s'->False) :
  codeAny (model P w) callerA (.call (.ref fa) ⟨[.ref a],[]⟩) (λr s'=>r=.ok (.ret (.bool true))/\OldK s₁.heap s'.heap/\s'.os=s₁.os/\AllBare s'.gens) s₁:=by
 have rv:=vals_ints hi;have lenV:=hi.length;obtain⟨nd,kn⟩:=bD.mp hto;have nd:=bS nd;have tabAt:∀{b:Addr}{q:Str},(tabsK K).lookup b=some q->PySem.isCodeTable s₁.heap b/\s₁.heap.get? b=some (PySem.W.tabObj #[])/\K.lookup b=none:=λ{b q} e=>by have hm:(b,q)∈tabsK K:=mem_of_lookup' e;obtain⟨x,hx,c,e1,_⟩:=mem_tabsK hm;obtain⟨h1,h2⟩:=htb x hx c b e1;refine⟨(h1.tab h2).isCodeTable,h2,?_⟩;have:=bb.mp kn (b,q) hm;simpa using this
 have core:∀H:Hp,Only H->SqL K H a (ns.map V.int)->HOk P w H s₁.heap->(∀b,H b≠none->b=a∨∃q,H b=some (.tbl q)/\(tabsK K).lookup b=some q)->(∀b,H b≠none->K.lookup b=none)->Tbs K H ->
   codeAny (model P w) callerA (.call (.ref fa) ⟨[.ref a],[]⟩) (λr s'=>r=.ok (.ret (.bool true))/\OldK s₁.heap s'.heap/\s'.os=s₁.os/\AllBare s'.gens) s₁:=by
  intro H hO hS hok hA hK hT;have base_of:∀{b:Addr}{o:Obj},s₁.heap.get? b=some o->H b=none->(hidT s₁.heap H).get? b=some o:=λe n=>hidT_get e n
  have noB:∀{b:Addr}{o:Obj},s₁.heap.get? b=some o->(∀us n,o.data≠.seq us n)->(∀us,o.data≠.fields us)->H b=none:=λ{b o} e d1 d2=>by
   cases q:H b with
   |none=>rfl
   | some u =>
    rcases hA b (by rw[q];simp)with e' | ⟨z,_,e'⟩
    . subst e';rw[ha]at e;cases e;exact absurd rfl (d1 _ _)
    . rw[(tabAt e').2.1]at e;cases e;exact absurd rfl (d2 _)
  have noA:∀{b:Addr}{o:Obj}{es:Array DictEntry}{ep:Nat},s₁.heap.get? b=some o->o.data=.dict es ep->H b=none:=λ{b o es ep} e d =>
   noB e (λus n z=>by rw[d]at z;cases z) λus z=>by rw[d]at z;cases z
  have nsK:∀{b:Addr}{m:Str->Option Value},s₁.heap.Ns b m->(hidT s₁.heap H).Ns b m:=λ{b m} ⟨o,es,ep,e,d,r⟩=>⟨o,es,ep,base_of e (noA e d),d,r⟩
  have hKb:K.In (hidT s₁.heap H):=λb o e=>base_of (KX b o e) (by
   cases q:H b with
   |none=>rfl
   |some u=>rw[hK b (by rw[q];simp)]at e;cases e)
  have hM:Mod K mg (hidT s₁.heap H):=⟨hKb,nsK hns,⟨mb,nsK hb,hbb⟩,let ⟨mc,h1,h2⟩:=hlim;⟨mc,nsK h1,h2⟩,let ⟨mm,h1⟩:=hsys;⟨mm,nsK h1⟩,by
   obtain⟨bm,ob,b1,b2,b3,b4,b5,b6⟩:=hbm
   exact⟨bm,ob,b1,b2,base_of b3 (noB b3 (λus n z=>by rw[b6]at z;cases z) λus z=>by rw[b6]at z;cases z),b4,b5,b6⟩,λx hx c P e=>by
   obtain⟨⟨o,vs,file,tf,flags,tg,inF,text,tt,e1,r⟩,_⟩:=htb x hx c P e
   exact⟨o,vs,file,tf,flags,tg,inF,text,tt,base_of e1 (by
    cases q:H c with
    |none=>rfl
    |some u=>exact absurd (hK c (by rw[q];simp)) (tabIn_some e)),r⟩⟩
  have e0:Env0 P w K mg (hidT s₁.heap H) callerA [] s₁ H:=⟨rfl,hM,λb o e=>of_hidT e,Nat.le_of_eq (hidT_size _ _),trivial,λb hb=>absurd (show b∈([]:List Addr)from hb) zY,hok,.of_eq hg,hT⟩;refine codeAny_mono ((F _ hKb (nsK hns)).run callerA [] s₁ H ⟨[.ref a],[]⟩ [.ref a] [.ref a] _ _ hr e0 (hbind s₁ (.ref a)) (.cons rfl .nil) (hsp H hO hS)) λr s' h=>?_
  cases r with
  |error e=>exact(hCX H e s' h).elim
  | ok fl =>
   cases fl with
   |next=>exact False.elim h
   |brk=>exact False.elim h
   |cont=>exact False.elim h
   | ret u =>
    obtain⟨v,H',os,bare,un,hok',r',q⟩:=h;have q':v=.bl true:=q;subst q';obtain rfl:u=Value.bool true:=r'
    have fin:∀b o,s₁.heap.get? b=some o->s'.heap.get? b=some o∨(PySem.isCodeTable s₁.heap b/\o=PySem.W.tabObj #[]/\∃ps,s'.heap.get? b=some (PySem.W.tabObj ps)):=λb o e=>by
     cases q:H b with
     |none=>exact .inl (un.keep b o e q (by intro z;exact absurd (show b∈([]:List Addr)from z) zY) zY)
     | some u =>
      rcases hO b with z|⟨ob,xs,z⟩|⟨t,z⟩
      . rw[q]at z;cases z
      . have z2:=un.frzs b ob _ z;obtain⟨e1,_⟩:=hok b _ z;obtain⟨e2,_⟩:=hok' b _ z2;rw[e]at e1;cases e1;exact .inl e2
      .
       rcases hA b (by rw[q];simp)with e' | ⟨t2,_,e'⟩
       . subst e';obtain⟨ps,e1,_⟩:=hok b _ z;rw[ha]at e1;cases e1
       . obtain⟨ps,e2,_⟩:=hok' b _ (un.tbls b _ z);obtain⟨t1,t2,_⟩:=tabAt e';rw[e]at t2;cases t2;exact .inr ⟨t1,rfl,ps,e2⟩
    refine⟨rfl,⟨λb o e=>?_,λb o e=>?_⟩,os,bare⟩
    .
     rcases fin b o e with z|⟨t,rfl,ps,z⟩
     . exact .inl z
     . exact .inr (.inl ⟨t,rfl,#[],ps,rfl,by rw[Array.empty_append];exact z⟩)
    .
     rcases fin b o e with z|⟨t,_,ps,z⟩
     . exact⟨o,z⟩
     . exact⟨_,z⟩
 have tbsOf:∀{H:Hp},(∀b q,(tabsK K).lookup b=some q->H b=some (.tbl q))->Tbs K H:=λ{H} h x hx c P e=>h P _ (lookup_of_nodup nd (List.mem_filterMap.mpr ⟨x,hx,by rw[e];rfl⟩));have okT:∀{H:Hp}{b:Addr}{q:Str},(tabsK K).lookup b=some q->ObjOk P w H s₁.heap b (.tbl q):=λ{H b q} e=>⟨#[],(tabAt e).2.1,trivial,λpos cv z=>by simp[codeAmong]at z⟩;have na:∀q,(tabsK K).lookup a≠some q:=λq z=>by have:=(tabAt z).2.1;rw[ha]at this;cases this
 cases hk:K.lookup a with
 | some o =>
  have e:=KX a o hk;rw[ha]at e;cases e;refine core (λb=>((tabsK K).lookup b).map .tbl) (λb=>?_) (.inr ⟨_,vs.toArray,_,hk,rfl,rfl,rfl,by rw[aB,lenV];exact hl,by simpa using rv⟩) (λb u z=>?_) (λb z=>?_) (λb z=>?_) (tbsOf λb q e=>by show Option.map _ _=_;rw[e];rfl)
  .
   show Option.map HO.tbl ((tabsK K).lookup b)=none∨_
   cases q:(tabsK K).lookup b with
   |none=>exact .inl rfl
   |some t=>exact .inr (.inr ⟨t,by show Option.map _ _=_;rw[q];rfl⟩)
  .
   have z':Option.map HO.tbl ((tabsK K).lookup b)=some u:=z
   cases q:(tabsK K).lookup b with
   |none=>rw[q]at z';cases z'
   |some t=>rw[q]at z';cases z';exact okT q
  .
   have z':Option.map HO.tbl ((tabsK K).lookup b)≠none:=z
   cases q:(tabsK K).lookup b with
   |none=>rw[q]at z';exact absurd rfl z'
   |some t=>exact .inr ⟨t,rfl,rfl⟩
  .
   have z':Option.map HO.tbl ((tabsK K).lookup b)≠none:=z
   cases q:(tabsK K).lookup b with
   |none=>rw[q]at z';exact absurd rfl z'
   |some t=>exact(tabAt q).2.2
 | none =>
  have at_a:∀ b,(if b=a then some (HO.frz {cls:=.type "list",data:=.seq vs.toArray} (.lst (ns.map V.int)))else((tabsK K).lookup b).map .tbl)≠none->b=a∨∃ q,(tabsK K).lookup b=some q:=λb z=>by
   by_cases hb:b=a
   . exact .inl hb
   .
    rw[if_neg hb]at z
    cases q:(tabsK K).lookup b with
    |none=>rw[q]at z;exact absurd rfl z
    |some t=>exact .inr ⟨t,rfl⟩
  have tabA:∀ b q,(tabsK K).lookup b=some q->(if b=a then some (HO.frz {cls:=.type "list",data:=.seq vs.toArray} (.lst (ns.map V.int)))else((tabsK K).lookup b).map .tbl)=some (.tbl q):=λb q e=>by rw[if_neg (λ(z:b=a)=>na q (by rw[<- z];exact e)),e];rfl
  refine core (λb=>if b=a then some (.frz {cls:=.type "list",data:=.seq vs.toArray} (.lst (ns.map V.int)))else((tabsK K).lookup b).map .tbl) (λb=>?_) (.inl (.inr ⟨{cls:=.type "list",data:=.seq vs.toArray},if_pos rfl⟩)) (λb u z=>?_) (λb z=>?_) (λb z=>?_) (tbsOf λb q e=>tabA b q e)
  .
   by_cases hb:b=a
   . exact .inr (.inl ⟨_,_,if_pos hb⟩)
   .
    cases q:(tabsK K).lookup b with
    |none=>exact .inl (by show ite _ _ _=_;rw[if_neg hb,q];rfl)
    |some t=>exact .inr (.inr ⟨t,tabA b t q⟩)
  .
   by_cases hb:b=a
   . have z':=(if_pos hb).symm.trans z;cases z';subst hb;exact⟨ha,by rw[aF];exact hl,vs,_,rv,ha⟩
   .
    have z':=(if_neg hb).symm.trans z
    cases q:(tabsK K).lookup b with
    |none=>rw[q]at z';cases z'
    |some t=>rw[q]at z';cases z';exact okT q
  .
   rcases at_a b z with e|⟨q,e⟩
   . exact .inl e
   . exact .inr ⟨q,tabA b q e,e⟩
  .
   rcases at_a b z with e|⟨q,e⟩
   . rw[e];exact hk
   . exact(tabAt e).2.2
theorem walk_of{l:PySem.W.OpenLaw}{n k:Nat}{q:Program}{loose:List Str}{XP:(Str->Option Value)->Heap->Prop}{YP:World->Heap->Prop}{d:DefRec}{K:Params->PySem.W.Frag}{CX:World->CXT}{sp:World->Sp}{x:Str}
  (hn:l.most=some n) (hq:importsNone q=true) (hn2:n<=sizeLine) (hdf:d.params.defaults=[]) (hr:Room k callerA)
  (hY:∀(w:World)(h:Heap),YP w h->(K w.params).In h) (hto:∀w:World,tabsOk (K w.params)=true) (hrc:∀(w:World),∀x∈lamNames,PySem.W.tabIn (K w.params) x=none∨((recsOf q).find? λe=>e.name == x).isSome=true)
  (F:∀(w:World)(mg:Str->Option Value)(fa:Addr)(h:Heap),(K w.params).In h->h.Ns mainGlobals mg->mg d.name=some (.ref fa) ->
   ∃fd:FuncData,(∀(s:Shared)(u:Value),BindsTo s fd ⟨[u],[]⟩ [(x,u)]) /\
    ∀base:Heap,(K w.params).In base->base.Ns mainGlobals mg->FnOk l.prog w (K w.params) mg base (CX w) k fa fd [x] (sp w))
  (hsp:∀(w:World)(H:Hp)(a:Addr)(ns:List Int),ns.length<=n->Only H->SqL (K w.params) H a (ns.map V.int)->sp w [.ref a] H (λv _=>v=.bl true) λ_ _ _=>False)
  (hCX:∀(w:World)(H:Hp)(s:Shared)(e:Value)(s':Shared),CX w [] H s (λ_ _ _=>False) e s'->False) :
  PySem.W.WalkO q loose XP YP l.row.toRowW d [] (λf vs=>PySem.call f vs):=by
 refine Att.attach_call hn hdf λw s₀ s₁ mg mb fa o pm cd doc a vs ns G Y ho hd hcd hmg hobj hints ae hg=>?_;have KX:=hY w _ Y;obtain⟨fd,hb,hF⟩:=F w mg fa _ KX G.T.g hmg
 exact law_call KX G.T.g G.T.b G.T.builtins G.T.nolimit (let ⟨mm,h1,_⟩:=(G.T.seer hq).mods;⟨mm,h1⟩) (let ⟨bm,ob,b1,b2,b3,b4,b5,b6⟩:=G.T.bmain;⟨bm,ob,b1,b2,b3,b4,b5,b6⟩) (hto w) (λy hy c P e=>by
  rcases hrc w y hy with z|z
  . rw[z]at e;cases e
  .
   obtain⟨d',hd'⟩:=Option.isSome_iff_exists.mp z
   exact PySem.W.tab_of G.T KX hd' e) hg hobj hints (aY ae hn2) hr hF hb (λH hO hS=>hsp w H a ns ae hO hS) λH e s'=>hCX w H s₁ e s'
noncomputable def defArgs(s:Stmt):Arguments:=match s with
 |.FunctionDef _ a _ _ _ _ _ _ _ _=>a
 |_=>{posonlyargs:=[],args:=[],vararg:=none,kwonlyargs:=[],kw_defaults:=[],kwarg:=none,defaults:=[] }
noncomputable def defBody(s:Stmt):List Stmt:=match s with
 |.FunctionDef _ _ b _ _ _ _ _ _ _=>b
 |_=>[]
noncomputable def defScope(s:Stmt):Scope:=match s with
 |.FunctionDef _ _ _ _ _ _ sc _ _ _=>sc
 |_=>{kind:=.function,names:=[],isGenerator:=false,isCoroutine:=false}
noncomputable abbrev CX0:CXT:=λ_ _ _ _ _ _=>False
noncomputable abbrev E0:XK:=λ_ _ _=>False
theorem pass0{X:Cx}:Passes CX0 X E0:=λ_ _ _ _ _ _ _ h=>h.elim
structure Fun (K:PySem.W.Frag) (x qual:Str) (st:Stmt) (f:Addr) (fd:FuncData):Prop where
 ex:∃(oc:Value)(od:Option Addr)(kV doc pm:Value)(an:Option Addr)(cdv ct:Value)(osl:Array (Option Value)),
  fd=PySem.W.fnOf x qual (defArgs st) (defBody st) (defScope st) .none kV doc pm an cdv ct/\K.lookup f=some ⟨oc,od,.func fd,osl⟩/\PySem.W.codeIn K cdv qual=true
 kp:PySem.W.keepIn K (.ref f)=true
section
variable{P:Program}{w:World}{K:PySem.W.Frag}{mg:Str->Option Value}{base:Heap}
theorem Fun.ok{x qual:Str}{st:Stmt}{f:Addr}{fd:FuncData}{N ps:List Str}{k:Nat}{sp:Sp}(F:Fun K x qual st f fd)(S:FnScope N ps (defScope st))(len:∀vs H Q E,sp vs H Q E->vs.length=ps.length)
  (hbody:∀(cdv:Value)(A:Around)(outer:List Env)(s:Shared)(H:Hp)(vs:List V)(Q:VK)(E:XK),Room k (A.deeper (envOfC qual (defScope st) s.heap.objs.size f cdv))->sp vs H Q E ->
   ∃t,PSs (cxOf CX0 P w K mg base N qual (defScope st) f cdv A outer s H E).nox (defBody st) t/\t {nx:=λ_ H'=>Q .non H',rt:=Q} (start N vs) H):FnOk P w K mg base CX0 (k+1) f fd ps sp:=by
 obtain⟨oc,od,kV,doc,pm,an,cdv,ct,osl,rfl,lk,hcd⟩:=F.ex;refine fn_of lk hcd S len λA outer s H vs Q E hr hsp=>?_;obtain⟨t,h,q⟩:=hbody cdv A outer s H vs Q E hr hsp;exact⟨t,h.nox,q⟩
theorem Fun.binds{x qual:Str}{st:Stmt}{f:Addr}{fd:FuncData}{ps:List Str}(F:Fun K x qual st f fd)
  (h:∀(kV doc pm:Value)(an:Option Addr)(cdv ct:Value)(us:List Value),us.length=ps.length->bindArgs (PySem.W.fnOf x qual (defArgs st) (defBody st) (defScope st) .none kV doc pm an cdv ct) ⟨us,[]⟩=pure (ps.zip us)):Binds K fd ps []:=by
 obtain⟨oc,od,kV,doc,pm,an,cdv,ct,osl,rfl,lk,hcd⟩:=F.ex;exact .all (h kV doc pm an cdv ct)
theorem fun_mk{x qual:Str}{st:Stmt}{f:Addr}{oc:Value}{od an:Option Addr}{osl:Array (Option Value)}{kV doc pm cdv ct:Value}(l:K.lookup f=some ⟨oc,od,.func (PySem.W.fnOf x qual (defArgs st) (defBody st) (defScope st) .none kV doc pm an cdv ct),osl⟩)
  (c:PySem.W.codeIn K cdv qual=true) (k:PySem.W.keepIn K (.ref f)=true):Fun K x qual st f (PySem.W.fnOf x qual (defArgs st) (defBody st) (defScope st) .none kV doc pm an cdv ct):=⟨⟨oc,od,kV,doc,pm,an,cdv,ct,osl,rfl,l,c⟩,k⟩
end
def Same(H H':Hp):Prop:=∀b o,H b=some o->H' b=some o
theorem Same.free{H H':Hp}(e:Same H H'){l:Addr}(h:H' l=Option.none):H l=Option.none:=by
 cases q:H l with
 |none=>rfl
 | some o =>
  rw[e l o q]at h;cases h
end L2
set_option maxHeartbeats 0
namespace L2
open PySem PySem.Spec
open Sem (wp)
theorem slot_fn_ga:Slot "function" "__getattribute__" "object.__getattribute__" :=
 .of (owner:="object") (n:="__getattribute__") (by rw[typeLookup_type,builtinLookup_eq_fast]; kernel_rfl) zb zb zb
  (by first|exact .inl zb|exact .inr zb) (by rw[isSubtype_type];kernel_rfl)
theorem entry_fn_ga:entryFor table "object.__getattribute__"=some Builtin.«object.__getattribute__»:=by
 first | exact F.entry_object_getattribute | exact entryFor_alias (id':="object.__getattribute__") za (by first | rfl | decide +kernel) zb za | kernel_rfl
theorem args_fn_ga(a b:Value):argsOk "object.__getattribute__" ⟨[a,b],[]⟩:=by
 first|exact F.args_object_getattribute_2 a b|(unfold argsOk;kernel_rfl)
theorem lk_fn_class:typeLookup (.type "function") "__class__"=pure (some (.builtin "object.__class__")):=by rw[typeLookup_type,builtinLookup_eq_fast]; kernel_rfl
theorem sub_fn_class_owner:isSubtype (.type "function") (.type (".".intercalate ("object.__class__".cutAt '.').dropLast))=pure true:=by rw[F.owner_object_class,isSubtype_type];kernel_rfl
section
variable{prog:Program}{w:World}{A:Around}{E:Value->Shared->Prop}{h:Heap}{g:Array GenState}{d:Drawn}{t:Nat}{os:OsState}{a:Addr}{o:Obj}
theorem class_get_fn{R:Result->Shared->Prop}(hx:h.get? a=some o) (hc:o.cls=.type "function") (hq:R (.ok (.ret (.type "function"))) ⟨h,g,d,t,os⟩) :
  codeAny (model prog w) A (.call (.builtin "getset_descriptor.__get__") ⟨[.builtin "object.__class__",.ref a,.type "function"],[]⟩) R ⟨h,g,d,t,os⟩:=by
 have hT:(⟨h,g,d,t,os⟩:Shared).TypeIs (.ref a) "function":=⟨_,hx,hc⟩;have hT5:(⟨h,g,d,t,os⟩:Shared).TypeIs (.builtin "object.__class__") "getset_descriptor":=F.typeOf_object_class;have f8:=sub_fn_class_owner;refine codeAny_call_builtin F.slot_gs_get.plain F.entry_gs_get (F.slot_gs_get.check _ _ _ _ _ _ _ _ hT5 (F.args_gs_get _ _ _) ?_)
 repeat (any_goals (first|assumption|wp_step))
 refine⟨Code.quiet_builtin _ zb,codeAny_builtin F.entry_object_class ?_⟩
 repeat (any_goals (first|assumption|wp_step))
theorem class_entry_fn{tk:Tok}{Q:PySem.Fin->Shared->Prop}(hx:h.get? a=some o) (hc:o.cls=.type "function") (hq:Q (.done (.ret (.type "function"))) ⟨h,g,d,t,os⟩) :
  wpAny (model prog w) A (Builtin.«object.__getattribute__» ⟨[.ref a,.str "__class__" tk],[]⟩) Q E ⟨h,g,d,t,os⟩:=by
 have hT:(⟨h,g,d,t,os⟩:Shared).TypeIs (.ref a) "function":=⟨_,hx,hc⟩;have hT5:(⟨h,g,d,t,os⟩:Shared).TypeIs (.builtin "object.__class__") "getset_descriptor":=F.typeOf_object_class;have f4:=lk_fn_class;have f5:=F.typeOf_object_class;have f6:=F.slot_gs_get.lookup;have f7:=F.slot_gs_set.lookup
 repeat (any_goals (first|assumption|wp_step))
 refine class_get_fn hx hc ?_
 repeat (any_goals (first|assumption|wp_step))
theorem class_call_fn{tk:Tok}{R:Result->Shared->Prop}(hx:h.get? a=some o) (hc:o.cls=.type "function") (hq:R (.ok (.ret (.type "function"))) ⟨h,g,d,t,os⟩) :
  codeAny (model prog w) A (.call (.builtin "object.__getattribute__") ⟨[.ref a,.str "__class__" tk],[]⟩) R ⟨h,g,d,t,os⟩ :=
 codeAny_call_builtin slot_fn_ga.plain entry_fn_ga (slot_fn_ga.check _ _ _ _ _ _ _ _ (show(⟨h,g,d,t,os⟩:Shared).TypeIs (.ref a) "function" from⟨_,hx,hc⟩) (args_fn_ga _ _) (class_entry_fn hx hc hq))
theorem class_by_fn{tk:Tok}{Q:Value->Shared->Prop}(hx:h.get? a=some o) (hc:o.cls=.type "function") (hq:Q (.type "function") ⟨h,g,d,t,os⟩):wpAny (model prog w) A (getAttrBy (.ref a) (.str "__class__" tk) false) Q E ⟨h,g,d,t,os⟩:=by
 have hT:(⟨h,g,d,t,os⟩:Shared).TypeIs (.ref a) "function":=⟨_,hx,hc⟩;have f2:=slot_fn_ga.lookup;have f3:=slot_fn_ga.bind (.ref a)
 repeat (any_goals (first|assumption|wp_step))
 refine class_call_fn hx hc ?_
 repeat (any_goals (first|assumption|wp_step))
theorem class_attr_fn{Q:Option Value->Shared->Prop}(hx:h.get? a=some o) (hc:o.cls=.type "function") (hq:Q (some (.type "function")) ⟨h,g,d,t+1,os⟩):wpAny (model prog w) A (getAttr? (.ref a) "__class__") Q E ⟨h,g,d,t,os⟩:=by
 unfold getAttr? getAttrBy?
 repeat (any_goals (first|assumption|with_reducible apply class_by_fn hx hc|wp_step))
end
theorem kitx_fn{K:PySem.W.Frag}{a:Addr}:PySem.W.KitX K (.ref a) (.type "function") (PySem.W.KitAt a "function"):=PySem.W.kitx_of PySem.W.kitAt_ty (λ{_ _ _ _ _ s} p k=>by obtain⟨h,g,d,t,os⟩:=s; obtain⟨o,h1,h2⟩:=p; exact class_attr_fn h1 h2 k)
end L2
namespace L2
open PySem PySem.Spec PyProof.Rows
inductive D where
 |non|bl (b:Bool)|int (i:Int)|str (x:Str)|tup (xs:List D)|lst (xs:List D)|dct (n:Nat)|exc (c:Str) (ns:List Str) (xs:List D)|fn (x:Str) (d:D)|dk (ks:List Key) (vs:List D)|gf (x:Str)
def SqZ(K:PySem.W.Frag)(H:Hp)(a:Addr)(xs:List V):Prop :=
 (∃o,H a=some (.frz o (.lst xs))) ∨
  ∃(o:Obj)(its:Array Value)(n:Nat),K.lookup a=some o/\o.cls=.type "list"/\o.dict=none/\o.data=.seq its n/\its.size<=sizeLine/\Vals xs its.toList
theorem SqZ.l{K:PySem.W.Frag}{H:Hp}{a:Addr}{xs:List V}(h:SqZ K H a xs):SqL K H a xs:=by
 rcases h with⟨o,h⟩|h
 . exact .inl (.inr ⟨o,h⟩)
 . exact .inr h
def noIns:HO->Prop
 |.frz _ u=>noIns u
 |.ins _ _ _=>False
 |_=>True
noncomputable def xMro(C L:Addr):List Value:=(if C=L then[]else[.ref C])++[.ref L,.type "ValueError",.type "Exception",.type "BaseException",.type "object"]
noncomputable def excStd(K:PySem.W.Frag)(c:Str)(C:Addr):Bool:=match PySem.W.clsIn K C,PySem.W.nsIn K mainGlobals "LoadError" with
 | some cd,some (some (.ref L))=>cd.name == c && cd.hasDict && cd.mro == xMro C L && (PySem.W.clsIn K L).any (λk=>k.name == ("LoadError" : Str)) &&
  PySem.W.findIn K (.ref C) "__getattribute__" == some (some (.builtin "BaseException.__getattribute__")) && PySem.W.findIn K (.ref C) "__getattr__" == some none && PySem.W.findIn K (.ref C) "__class__" == some (some (.builtin "object.__class__")) &&
  PySem.W.findIn K (.ref C) "__setattr__" == some (some (.builtin "object.__setattr__")) && PySem.W.typeIn K (.ref C) == some (.type "type") && PySem.W.nsIn K mainGlobals c == some (some (.ref C))
 |_,_=>false
noncomputable def lamOf:List Stmt->Option (Arguments×Expr×Scope×Pos)
 |[]=>none
 | st::r=>match lamOf r with
  |some l=>some l
  | none=>match st with
   | .Expr (.Call _ args _ _) _=>(match args.getLast? with
    |some (.Lambda p b sc pos)=>some (p,b,sc,pos)
    |_=>none)
   | .Return (some (.Call _ _ kws _)) _=>(match kws.getLast? with
    |some ⟨_,.Lambda p b sc pos,_⟩=>some (p,b,sc,pos)
    |_=>none)
   |_=>none
noncomputable def lamIn(K:PySem.W.Frag)(x:Str):Option (Arguments×Expr×Scope×Pos):=match PySem.W.nsIn K mainGlobals x with
 | some (some (.ref f))=>(match K.lookup f with
  | some ⟨_,_,.func fd,_⟩=>(match fd.body with
   |.stmts b=>lamOf b
   |_=>none)
  |_=>none)
 |_=>none
def XF(H:Hp)(dx:Option Addr)(ns:List Str)(vs:List V):Prop:=(ns=[]/\vs=[]/\dx=none)∨∃d od,dx=some d/\H d=some (.frz od (.xd (ns.zip vs)))/\ns.length=vs.length
mutual
inductive Rep (K:PySem.W.Frag) (H:Hp):V->D->Prop where
 |non:Rep K H .non .non
 |bl (b:Bool):Rep K H (.bl b) (.bl b)
 |int (i:Int):Rep K H (.int i) (.int i)
 |str (x:Str):Rep K H (.str x) (.str x)
 |tup {a:Addr} {vs:List V} {ds:List D} (h:SqT K H a vs) (r:Reps K H vs ds):Rep K H (.ref a) (.tup ds)
 |lst {a:Addr} {vs:List V} {ds:List D} (h:SqZ K H a vs) (r:Reps K H vs ds):Rep K H (.ref a) (.lst ds)
 |dct {a:Addr} {o:Obj} {kvs:List (Key×V)} (h:H a=some (.frz o (.dK kvs))):Rep K H (.ref a) (.dct kvs.length)
 |exc {a:Addr} {o:Obj} {u:HO} {c:Str} {C:Addr} {ns:List Str} {vs:List V} {ds:List D} (h:H a=some (.frz o u)) (hv:noIns u) (hc:o.cls=.ref C) (hn:PySem.W.notCls o=true) (hs:excStd K c C=true) (hq:∀f∈ns,PySem.W.findIn K (.ref C) f=some none) (hf:XF H o.dict ns vs) (r:Reps K H vs ds):Rep K H (.ref a) (.exc c ns ds)
 | fn {f c c':Addr} {oc oq:Obj} {x y:Str} {pr:Arguments} {bd:Expr} {sc:Scope} {pos:Pos} {pm ctv u:Value} {v:V} {d:D} (hl:lamIn K x=some (pr,bd,sc,pos)) (hf:H f=some (.frz (PySem.W.kla_obj "<lambda>" (lamQ x) pr bd sc [(y,c)] pm c' ctv) (.own f)))
  (hq:H c'=some (.frz oq (.own c'))) (hc:CodeOb oq (lamQ x)) (hz:H c=some (.frz oc (.own c))) (hd:oc.data=.cell (some u)) (hv:RelV v u) (hm:(y,NameKind.free)∈sc.names) (r:Rep K H v d):Rep K H (.ref f) (.fn x d)
 |dk {a:Addr} {o:Obj} {kvs:List (Key×V)} {ds:List D} (h:H a=some (.frz o (.dK kvs))) (r:Reps K H (kvs.map (·.2)) ds):Rep K H (.ref a) (.dk (kvs.map (·.1)) ds)
 |gf {a:Addr} {x:Str} {fd:FuncData} (h:PySem.W.nsIn K mainGlobals x=some (some (.ref a))) (ho:K.lookup a=some ⟨.type "function",none,.func fd,#[]⟩) (hk:PySem.W.keepIn K (.ref a)=true):Rep K H (.ref a) (.gf x)
inductive Reps (K:PySem.W.Frag) (H:Hp):List V->List D->Prop where
 |nil:Reps K H [] []
 |cons {v:V} {d:D} {vs:List V} {ds:List D} (h:Rep K H v d) (t:Reps K H vs ds):Reps K H (v::vs) (d::ds)
end
def Pers:HO->Prop
 |.tup _=>True
 |.frz _ _=>True
 |.tbl _=>True
 |_=>False
def Pres(H H':Hp):Prop:=∀b o,Pers o->H b=some o->H' b=some o
theorem SqT.pres{K:PySem.W.Frag}{H H':Hp}{a:Addr}{xs:List V}(p:Pres H H')(h:SqT K H a xs):SqT K H' a xs:=by
 rcases h with(h|⟨o,h⟩)|h
 . exact .inl (.inl (p _ _ True.intro h))
 . exact .inl (.inr ⟨o,p _ _ True.intro h⟩)
 . exact .inr h
theorem SqZ.pres{K:PySem.W.Frag}{H H':Hp}{a:Addr}{xs:List V}(p:Pres H H')(h:SqZ K H a xs):SqZ K H' a xs:=by
 rcases h with⟨o,h⟩|h
 . exact .inl ⟨o,p _ _ True.intro h⟩
 . exact .inr h
theorem XF.pres{H H':Hp}(p:Pres H H'){dx:Option Addr}{ns:List Str}{vs:List V}(h:XF H dx ns vs):XF H' dx ns vs:=by
 rcases h with h|⟨d,od,e,h,l⟩
 . exact .inl h
 . exact .inr ⟨d,od,e,p _ _ True.intro h,l⟩
mutual
theorem Rep.pres{K:PySem.W.Frag}{H H':Hp}(p:Pres H H'):∀{v:V}{d:D},Rep K H v d->Rep K H' v d
 |_,_,.non=>.non
 |_,_,.bl b=>.bl b
 |_,_,.int i=>.int i
 |_,_,.str x=>.str x
 |_,_,.tup h r=>.tup (h.pres p) (Reps.pres p r)
 |_,_,.lst h r=>.lst (h.pres p) (Reps.pres p r)
 |_,_,.dct h=>.dct (p _ _ True.intro h)
 |_,_,.exc h hv hc hn hs hq hf r=>.exc (p _ _ True.intro h) hv hc hn hs hq (hf.pres p) (Reps.pres p r)
 |_,_,.fn hl hf hq hc hz hd hv hm r=>.fn hl (p _ _ True.intro hf) (p _ _ True.intro hq) hc (p _ _ True.intro hz) hd hv hm (Rep.pres p r)
 |_,_,.dk h r=>.dk (p _ _ True.intro h) (Reps.pres p r)
 |_,_,.gf h ho hk=>.gf h ho hk
theorem Reps.pres{K:PySem.W.Frag}{H H':Hp}(p:Pres H H'):∀{vs:List V}{ds:List D},Reps K H vs ds->Reps K H' vs ds
 |_,_,.nil=>.nil
 |_,_,.cons h t=>.cons (Rep.pres p h) (Reps.pres p t)
end
theorem Reps.length{K:PySem.W.Frag}{H:Hp}:∀{vs:List V}{ds:List D},Reps K H vs ds->vs.length=ds.length
 |_,_,.nil=>rfl
 |_,_,.cons _ t=>by simp[Reps.length t]
theorem Reps.get{K:PySem.W.Frag}{H:Hp}:∀{vs:List V}{ds:List D}{i:Nat}{d:D},Reps K H vs ds->ds[i]?=some d->∃v,vs[i]?=some v/\Rep K H v d
 |_,_,_,_,.nil,e=>by simp at e
 |_,_,0,_,.cons h _,e=>by simp at e;subst e;exact⟨_,rfl,h⟩
 | _,_,i+1,d,.cons _ t,e=>by obtain⟨v,h1,h2⟩:=Reps.get (i:=i) (d:=d) t (by simpa using e);exact⟨v,by simpa using h1,h2⟩
theorem Reps.set{K:PySem.W.Frag}{H:Hp}{v:V}{d:D}(r:Rep K H v d):∀{vs:List V}{ds:List D}(i:Nat),Reps K H vs ds->Reps K H (vs.set i v) (ds.set i d)
 |_,_,_,.nil=>.nil
 |_,_,0,.cons _ t=>.cons r t
 |_,_,i+1,.cons h t=>.cons h (Reps.set r i t)
theorem Reps.append{K:PySem.W.Frag}{H:Hp}:∀{vs us:List V}{ds es:List D},Reps K H vs ds->Reps K H us es->Reps K H (vs++us) (ds++es)
 |_,_,_,_,.nil,s=>s
 |_,_,_,_,.cons h t,s=>.cons h (Reps.append t s)
theorem Reps.take{K:PySem.W.Frag}{H:Hp}:∀{vs:List V}{ds:List D}(n:Nat),Reps K H vs ds->Reps K H (vs.take n) (ds.take n)
 |_,_,0,_=>.nil
 |_,_,_+1,.nil=>.nil
 |_,_,n+1,.cons h t=>.cons h (Reps.take n t)
theorem Reps.drop{K:PySem.W.Frag}{H:Hp}:∀{vs:List V}{ds:List D}(n:Nat),Reps K H vs ds->Reps K H (vs.drop n) (ds.drop n)
 |_,_,0,r=>r
 |_,_,_+1,.nil=>.nil
 |_,_,n+1,.cons _ t=>Reps.drop n t
inductive L where
 |un|d (x:D)|own (a:Addr) (xs:List D)|bx (k:Option Addr) (ls:List L)|dic (a:Addr) (kvs:List (Key×D))
noncomputable abbrev Ev:=List L
mutual
noncomputable def ownsL:L->List Addr
 |.un=>[]
 |.d _=>[]
 |.own a _=>[a]
 |.bx k ls=>k.toList++ownsLs ls
 |.dic a _=>[a]
noncomputable def ownsLs:List L->List Addr
 |[]=>[]
 |l::ls=>ownsL l++ownsLs ls
end
noncomputable def owns(Z:Ev):List Addr:=Z.flatMap ownsL
theorem ownsLs_eq:∀ls:List L,ownsLs ls=owns ls
 |[]=>rfl
 |l::ls=>by rw[ownsLs,ownsLs_eq ls];rfl
mutual
def Slot1(K:PySem.W.Frag)(H:Hp)(s:Option V):L->Prop
 |.un=>True
 |.d x=>∃v,s=some v/\Rep K H v x
 |.own a xs=>s=some (.ref a)/\∃vs,H a=some (.lst vs)/\Reps K H vs xs
 |.bx none ls=>∃a vs,s=some (.ref a)/\SqT K H a vs/\Slots K H vs ls
 |.bx (some a) ls=>s=some (.ref a)/\∃vs,H a=some (.lst vs)/\Slots K H vs ls
 |.dic a kvs=>s=some (.ref a)/\∃vs,H a=some (.dK vs)/\Paired (λ(p:Key×V) (q:Key×D)=>p.1=q.1/\Rep K H p.2 q.2) vs kvs
def Slots(K:PySem.W.Frag)(H:Hp)(vs:List V):List L->Prop
 |[]=>vs=[]
 |l::ls=>∃v us,vs=v::us/\Slot1 K H (some v) l/\Slots K H us ls
end
mutual
theorem Slot1.pres{K:PySem.W.Frag}{H H':Hp}(p:Pres H H'):∀{s:Option V}(l:L),(∀a∈ownsL l,H' a=H a)->Slot1 K H s l->Slot1 K H' s l
 |_,.un,_,_=>by simp only[Slot1]
 | _,.d x,_,h=>by
  simp only[Slot1]at h ⊢
  obtain⟨v,e,r⟩:=h
  exact⟨v,e,r.pres p⟩
 | _,.own a xs,q,h=>by
  simp only[Slot1]at h ⊢
  obtain⟨e,vs,ha,r⟩:=h
  exact⟨e,vs,(q a (by simp[ownsL])).trans ha,r.pres p⟩
 | _,.bx none ls,q,h=>by
  simp only[Slot1]at h ⊢
  obtain⟨a,vs,e,ha,r⟩:=h
  exact⟨a,vs,e,ha.pres p,Slots.pres p ls (λb hb=>q b (by simp[ownsL,hb])) r⟩
 | _,.bx (some a) ls,q,h=>by
  simp only[Slot1]at h ⊢
  obtain⟨e,vs,ha,r⟩:=h
  exact⟨e,vs,(q a (by simp[ownsL])).trans ha,Slots.pres p ls (λb hb=>q b (by simp[ownsL,hb])) r⟩
 | _,.dic a kvs,q,h=>by
  simp only[Slot1]at h ⊢
  obtain⟨e,vs,ha,r⟩:=h
  exact⟨e,vs,(q a (by simp[ownsL])).trans ha,Paired.mapP r λ_ _ z=>⟨z.1,z.2.pres p⟩⟩
theorem Slots.pres{K:PySem.W.Frag}{H H':Hp}(p:Pres H H'):∀{vs:List V}(ls:List L),(∀a∈ownsLs ls,H' a=H a)->Slots K H vs ls->Slots K H' vs ls
 |_,[],_,h=>by simpa only[Slots]using h
 | _,l::ls,q,h=>by
  simp only[Slots]at h ⊢
  obtain⟨v,us,e,h1,h2⟩:=h
  exact⟨v,us,e,Slot1.pres p l (λb hb=>q b (by simp[ownsLs,hb])) h1,Slots.pres p ls (λb hb=>q b (by simp[ownsLs,hb])) h2⟩
end
def OMut:HO->Prop
 |.lst _=>True
 |.dK _=>True
 |_=>False
theorem OMut.no{o:HO}(h:OMut o)(p:Pers o):False:=by cases o<;>first|exact h|exact p
mutual
theorem Slot1.lstAt{K:PySem.W.Frag}{H:Hp}:∀{s:Option V}(l:L),Slot1 K H s l->∀a∈ownsL l,∃o,H a=some o/\OMut o
 |_,.un,_,a,ha=>by simp[ownsL]at ha
 |_,.d x,_,a,ha=>by simp[ownsL]at ha
 | _,.own b xs,h,a,ha=>by
  simp only[Slot1]at h
  have e:a=b:=by simpa[ownsL]using ha
  subst e
  obtain⟨_,vs,q,_⟩:=h
  exact⟨_,q,True.intro⟩
 | _,.bx none ls,h,a,ha=>by
  simp only[Slot1]at h
  obtain⟨b,vs,e,_,r⟩:=h
  exact Slots.lstAt ls r a (by simpa[ownsL]using ha)
 | _,.bx (some b) ls,h,a,ha=>by
  simp only[Slot1]at h
  obtain⟨e,vs,q,r⟩:=h
  rcases(by simpa[ownsL]using ha:a=b∨a∈ownsLs ls)with z|z
  .
   subst z;exact⟨_,q,True.intro⟩
  .
   exact Slots.lstAt ls r a z
 | _,.dic b xs,h,a,ha=>by
  simp only[Slot1]at h
  have e:a=b:=by simpa[ownsL]using ha
  subst e
  obtain⟨_,vs,q,_⟩:=h
  exact⟨_,q,True.intro⟩
theorem Slots.lstAt{K:PySem.W.Frag}{H:Hp}:∀{vs:List V}(ls:List L),Slots K H vs ls->∀a∈ownsLs ls,∃o,H a=some o/\OMut o
 |_,[],_,a,ha=>by simp[ownsLs]at ha
 | _,l::ls,h,a,ha=>by
  simp only[Slots]at h
  obtain⟨v,us,e,h1,h2⟩:=h
  rcases(by simpa[ownsLs]using ha:a∈ownsL l∨a∈ownsLs ls)with z|z
  .
   exact Slot1.lstAt l h1 a z
  .
   exact Slots.lstAt ls h2 a z
end
structure REnv (K:PySem.W.Frag) (Pr H:Hp) (σ:St) (Z:Ev):Prop where
 sub:∀b o,Pr b=some o->H b=some o
 nd:(owns Z).Nodup
 off:∀a∈owns Z,Pr a=none
 sl:Paired (Slot1 K H) σ Z
theorem mem_owns{Z:Ev}{a:Addr}:a∈owns Z↔∃l∈Z,a∈ownsL l:=by unfold owns;rw[List.mem_flatMap]
theorem own_mem{Z:Ev}{a:Addr}{xs:List D}(h:L.own a xs∈Z):a∈owns Z:=mem_owns.mpr ⟨_,h,by simp[ownsL]⟩
theorem owns_append(a b:Ev):owns (a++b)=owns a++owns b:=List.flatMap_append
theorem Paired.mem2{α β:Type}{F:α->β->Prop}:∀{l1:List α}{l2:List β}{b:β},Paired F l1 l2->b∈l2->∃a,a∈l1/\F a b
 |_,_,_,.nil,h=>by simp at h
 | _,_,_,.cons r t,h=>by
  rcases az.mp h with rfl|h
  . exact⟨_,ai,r⟩
  . obtain⟨a,h1,h2⟩:=Paired.mem2 t h;exact⟨a,ag _ h1,h2⟩
theorem Paired.app{α β:Type}{F:α->β->Prop}:∀{a c:List α}{b d:List β},Paired F a b->Paired F c d->Paired F (a++c) (b++d)
 |_,_,_,_,.nil,s=>s
 |_,_,_,_,.cons r t,s=>.cons r (Paired.app t s)
theorem Paired.unapp{α β:Type}{F:α->β->Prop}:∀{a c:List α}{b d:List β},a.length=b.length->Paired F (a++c) (b++d)->Paired F a b/\Paired F c d
 |[],_,[],_,_,s=>⟨.nil,s⟩
 | x::a,_,y::b,_,hl,.cons r t=>by obtain⟨p,q⟩:=Paired.unapp (a:=a) (b:=b) (by simpa using hl) t;exact⟨.cons r p,q⟩
 |[],_,_::_,_,hl,_=>by simp at hl
 |_::_,_,[],_,hl,_=>by simp at hl
theorem Paired.get2{α β:Type}{F:α->β->Prop}:∀{l1:List α}{l2:List β}{i:Nat}{b:β},Paired F l1 l2->l2[i]?=some b->∃a,l1[i]?=some a/\F a b
 |_,_,_,_,.nil,e=>by simp at e
 |_,_,0,_,.cons h _,e=>by simp at e;subst e;exact⟨_,rfl,h⟩
 | _,_,i+1,d,.cons _ t,e=>by obtain⟨v,h1,h2⟩:=Paired.get2 (i:=i) (b:=d) t (by simpa using e);exact⟨v,by simpa using h1,h2⟩
theorem Paired.set2{α β:Type}{F:α->β->Prop}{a:α}{b:β}(r:F a b):∀{l1:List α}{l2:List β}(i:Nat),Paired F l1 l2->Paired F (l1.set i a) (l2.set i b)
 |_,_,_,.nil=>.nil
 |_,_,0,.cons _ t=>.cons r t
 |_,_,i+1,.cons h t=>.cons h (Paired.set2 r i t)
theorem Paired.impMem{α β:Type}{F G:α->β->Prop}:∀{l1:List α}{l2:List β},Paired F l1 l2->(∀b∈l2,∀a,F a b->G a b)->Paired G l1 l2
 |_,_,.nil,_=>.nil
 |_,_,.cons r t,h=>.cons (h _ ai _ r) (Paired.impMem t λb hb=>h b (ag _ hb))
theorem Paired.set_r{α β:Type}{F:α->β->Prop}{b:β}:∀{l1:List α}{l2:List β}(i:Nat),Paired F l1 l2->(∀a,l1[i]?=some a->F a b)->Paired F l1 (l2.set i b)
 |_,_,_,.nil,_=>.nil
 |_,_,0,.cons _ t,h=>.cons (h _ rfl) t
 |_,_,i+1,.cons q t,h=>.cons q (Paired.set_r i t λa e=>h a (by simpa using e))
section
variable{K:PySem.W.Frag}{Pr H H':Hp}{σ τ w σ':St}{Z μ lam Z':Ev}
theorem REnv.len(E:REnv K Pr H σ Z):σ.length=Z.length:=Paired.length E.sl
noncomputable def butOwn(H:Hp)(Z:Ev):Hp:=λb=>if b∈owns Z then none else H b
theorem REnv.at_own(E:REnv K Pr H σ Z){a:Addr}(h:a∈owns Z):∃o,H a=some o/\OMut o:=by obtain⟨l,hx,ha⟩:=mem_owns.mp h;obtain⟨s,_,q⟩:=Paired.mem2 E.sl hx;exact q.lstAt l a ha
theorem REnv.wide(E:REnv K Pr H σ Z):REnv K (butOwn H Z) H σ Z :=
 ⟨λb o e=>by unfold butOwn at e;split at e;cases e;exact e,E.nd,λa h=>by unfold butOwn;rw[if_pos h],E.sl⟩
theorem REnv.drop(E:REnv K Pr H (τ++σ) (lam++Z))(hl:τ.length=lam.length):REnv K Pr H σ Z :=
 ⟨E.sub,(aJ.mp (owns_append lam Z ▸ E.nd)).2.1,λa h=>E.off a (by rw[owns_append];exact ar _ h),(Paired.unapp hl E.sl).2⟩
theorem REnv.left(E:REnv K Pr H (τ++σ) (lam++Z))(hl:τ.length=lam.length):REnv K Pr H τ lam :=
 ⟨E.sub,(aJ.mp (owns_append lam Z ▸ E.nd)).1,λa h=>E.off a (by rw[owns_append];exact au _ h),(Paired.unapp hl E.sl).1⟩
theorem pres_of{H H':Hp}{Z:Ev}{σ:St}{Pr:Hp}(E:REnv K Pr H σ Z)(h:∀b o,butOwn H Z b=some o->H' b=some o):Pres H H':=λb o p e=>by refine h b o ?_;unfold butOwn;rw[if_neg,e];intro hm;obtain⟨u,e',m⟩:=E.at_own hm;rw[e]at e';cases e';exact m.no p
theorem REnv.step(E:REnv K Pr H (τ++σ) (lam++Z))(hl:τ.length=lam.length)(E':REnv K (butOwn H Z) H' (w++σ') (μ++Z'))(hw:w.length=μ.length):REnv K Pr H' (w++(τ++σ')) (μ++(lam++Z')):=by
 have Eσ:=E.drop hl;have p:Pres H H':=pres_of Eσ E'.sub;have dis:∀a∈owns lam,a∉owns Z:=λa h1 h2=>(aJ.mp (owns_append lam Z ▸ E.nd)).2.2 a h1 a h2 rfl;have at':∀a∈owns lam,butOwn H Z a=H a:=λa h=>by unfold butOwn;rw[if_neg (dis a h)]
 have some':∀a∈owns lam,∃o,H a=some o/\OMut o:=λa h=>E.at_own (by rw[owns_append];exact au _ h);have out:∀a∈owns lam,a∉owns (μ++Z'):=λa h h2=>by have z:=E'.off a h2;rw[at' a h]at z;obtain⟨vs,e,_⟩:=some' a h;rw[e]at z;cases z
 have s1:=(Paired.unapp hw E'.sl);have s2:=(Paired.unapp hl E.sl).1;refine⟨λb o e=>?_,?_,λa ha=>?_,Paired.app s1.1 (Paired.app ?_ s1.2)⟩
 . refine E'.sub b o ?_;unfold butOwn;rw[if_neg,E.sub b o e];intro hm;have z:=Eσ.off b hm;rw[e]at z;cases z
 .
  have n1:=E'.nd;rw[owns_append]at n1;rw[owns_append,owns_append];obtain⟨q1,q2,q3⟩:=aJ.mp n1;refine aJ.mpr ⟨q1,aJ.mpr ⟨(aJ.mp (owns_append lam Z ▸ E.nd)).1,q2,λa ha b hb=>?_⟩,λa ha b hb=>?_⟩
  . rintro rfl;exact out a ha (by rw[owns_append];exact ar _ hb)
  .
   rcases aM.mp hb with hb|hb
   . rintro rfl;exact out a hb (by rw[owns_append];exact au _ ha)
   . exact q3 a ha b hb
 .
  rw[owns_append,owns_append]at ha
  have key:a∈owns (μ++Z')->Pr a=none:=λh=>by
   have z:=E'.off a h;unfold butOwn at z;by_cases hm:a∈owns Z
   . exact Eσ.off a hm
   .
    rw[if_neg hm]at z
    cases q:Pr a with
    |none=>rfl
    |some o=>rw[E.sub a o q]at z;cases z
  rcases aM.mp ha with h|h
  . exact key (by rw[owns_append];exact au _ h)
  .
   rcases aM.mp h with h|h
   . exact E.off a (by rw[owns_append];exact au _ h)
   . exact key (by rw[owns_append];exact ar _ h)
 .
  have:∀l∈lam,∀s,Slot1 K H s l->Slot1 K H' s l:=λl hlm s h=>h.pres p l λa e=>by have ha:a∈owns lam:=mem_owns.mpr ⟨l,hlm,e⟩;obtain⟨vs,e,_⟩:=some' a ha;rw[E'.sub a _ ((at' a ha).trans e),e]
  exact Paired.impMem s2 this
end
end L2
namespace L2
open PySem PySem.Spec PyProof.Rows PySem.W
structure XStd (K:Frag) (c:Str) (C L:Addr) (cd:ClassData):Prop where
 cls:clsIn K C=some cd
 load:nsIn K mainGlobals "LoadError"=some (some (.ref L))
 name:cd.name=c
 dct:cd.hasDict=true
 mro:cd.mro=xMro C L
 lname:∃ k,clsIn K L=some k/\k.name=("LoadError" : Str)
 ga:findIn K (.ref C) "__getattribute__"=some (some (.builtin "BaseException.__getattribute__"))
 gx:findIn K (.ref C) "__getattr__"=some none
 gc:findIn K (.ref C) "__class__"=some (some (.builtin "object.__class__"))
 sa:findIn K (.ref C) "__setattr__"=some (some (.builtin "object.__setattr__"))
 ty:typeIn K (.ref C)=some (.type "type")
 own:nsIn K mainGlobals c=some (some (.ref C))
theorem excStd_is{K:Frag}{c:Str}{C:Addr}(h:excStd K c C=true):∃L cd,XStd K c C L cd:=by
 unfold excStd at h;split at h
 . rename_i cd L e1 e2;simp only[aI,beq_iff_eq]at h;obtain⟨⟨⟨⟨⟨⟨⟨⟨⟨h1,h2⟩,h3⟩,h4⟩,h5⟩,h6⟩,h7⟩,h8⟩,h9⟩,h10⟩:=h;obtain⟨k,hk,hn⟩:=any_some h4;exact⟨L,cd,e1,e2,h1,h2,h3,⟨k,hk,beq_iff_eq.mp hn⟩,h5,h6,h7,h8,h9,h10⟩
 . cases h
section
variable{K:Frag}{c:Str}{C L:Addr}{cd:ClassData}
theorem xMro_or(C L:Addr):xMro C L=[.ref C,.ref L,.type "ValueError",.type "Exception",.type "BaseException",.type "object"]∨xMro C L=[.ref L,.type "ValueError",.type "Exception",.type "BaseException",.type "object"]/\C=L:=by
 by_cases h:C=L
 . exact .inr ⟨by unfold xMro;rw[if_pos h];rfl,h⟩
 . exact .inl (by unfold xMro;rw[if_neg h];rfl)
theorem xMro_has(C L:Addr)(b:Value):(xMro C L).contains b=([.ref C,.ref L,.type "ValueError",.type "Exception",.type "BaseException",.type "object"]:List Value).contains b:=by
 rcases xMro_or C L with e|⟨e,h⟩
 . rw[e]
 . subst h;rw[e];simp only[List.contains_cons,<- Bool.or_assoc,Bool.or_self]
theorem XStd.mroIn(S:XStd K c C L cd)(b:Value):PySem.W.mroIn K C b=some (([.ref C,.ref L,.type "ValueError",.type "Exception",.type "BaseException",.type "object"]:List Value).contains b):=by
 unfold PySem.W.mroIn;rw[S.cls,Option.bind_some,S.mro];have ne:(xMro C L).isEmpty=false:=by rcases xMro_or C L with e|⟨e,_⟩<;>rw[e]<;>rfl
 show(if(xMro C L).isEmpty=true then none else some ((xMro C L).contains b))=_
 rw[ne,xMro_has];rfl
theorem xmro_type(C L:Addr)(T:String):(([.ref C,.ref L,.type "ValueError",.type "Exception",.type "BaseException",.type "object"]:List Value).contains (.type T))=(["ValueError","Exception","BaseException","object"]:List String).contains T:=by
 simp only[List.contains_cons,List.contains_nil,Bool.or_false];have e:∀a:Addr,(Value.type T == Value.ref a)=false:=λ_=>rfl
 have f:∀U:String,(Value.type T == Value.type U)=(T == U):=λU=>by
  by_cases q:T=U
  . subst q;simp
  . rw[beq_eq_false_iff_ne.mpr q,beq_eq_false_iff_ne];intro z;injection z with z;exact q z
 rw[e,e,f,f,f,f];rfl
theorem XStd.has(S:XStd K c C L cd){T:String} (h:(["ValueError","Exception","BaseException","object"]:List String).contains T=true):PySem.W.mroIn K C (.type T)=some true:=by rw[S.mroIn,xmro_type,h]
theorem XStd.isT(S:XStd K c C L cd){M:Model}{h:Heap}(X:K.In h)(T:String):Looks M h (isSubtype (.ref C) (.type T)) ((["ValueError","Exception","BaseException","object"]:List String).contains T):=looks_mroIn X (by rw[S.mroIn,xmro_type])
end
section
variable{prog:Program}{w:World}{A:Around}{E:Value->Shared->Prop}{s:Shared}{K:Frag}{c:Str}{x C L:Addr}{cd:ClassData}{ox:Obj}{od:Option Obj}{name:Str}
theorem xclass_entry{tk:Tok}{Q:Fin->Shared->Prop}(S:XStd K c C L cd)(X:K.In s.heap)(I:InstAt s.heap x ox C od) (hf:findObj K C od "__class__"=some (.bind (.builtin "getset_descriptor.__get__") (.builtin "object.__class__"))) (hq:Q (.done (.ret (.ref C))) s) :
  wpAny (model prog w) A (Builtin.«object.__getattribute__» ⟨[.ref x,.str "__class__" tk],[]⟩) Q E s:=by
 obtain⟨hh,g,d,t,os⟩:=s;have L0:=I.type (M:=model prog w);have L1:=looks_find (M:=model prog w) X I hf;unfold Builtin.«object.__getattribute__»;refine ak (aD (ak (aD ?_)));refine ak (L0.at (ak (L1.at ?_)));show wpAny _ _ (holding [Value.builtin "object.__class__"] (call (.builtin "getset_descriptor.__get__") [.builtin "object.__class__",.ref x,.ref C]) >>= ret) _ _ _;refine ak (bV (wpAny_call ?_));exact class_get (s:=⟨hh,g,d,t,os⟩) (ox:=ox) (od:=od) X I (S.has zd) (aD hq)
theorem xget_by{tk:Tok}{v:Value}{fill expr:Bool}{Q:Value->Shared->Prop}(S:XStd K c C L cd)(X:K.In s.heap)(I:InstAt s.heap x ox C od)
  (he:∀(A':Around)(Q':Fin->Shared->Prop),Q' (.done (.ret v)) s->wpAny (model prog w) A' (Builtin.«object.__getattribute__» ⟨[.ref x,.str name tk],[]⟩) Q' (λ_ _=>False) s) (hh:handedIn v=true) (hq:Q v s) :
  wpAny (model prog w) A (getAttrBy (.ref x) (.str name tk) fill expr) Q E s:=by
 have FB:=F.excAttr_ValueError;have L0:=I.type (M:=model prog w);have L1:=looks_findIn (M:=model prog w) X S.ga;have L2:=looks_findIn (M:=model prog w) X S.gx;unfold getAttrBy;refine bV (ak (L0.here (ak (L1.here ?_))));have hx2:(Value.builtin "BaseException.__getattribute__" == Value.builtin "object.__getattribute__")=false:=by decide +kernel
 dsimp only;rw[hx2,Bool.and_false,if_neg (by decide)];unfold getAttrByItsOwn;refine ak ((looks_hook (mc:=.ref C) X (r:=none) S.gx).here ?_);refine ak (wpAny_attempt (bV ?_));have hx0:(expr && onTheHeap (Value.builtin "BaseException.__getattribute__"))=false:=by cases expr <;> rfl
 unfold callGetattribute boundAndCalled;rw[hx0,if_neg (by decide),FB.ga.bind];refine ak (aD (wpAny_call ?_));have hi:Looks (model prog w) s.heap (isInstance (.ref x) (.type "BaseException")) true:=L0.andThen (S.isT X _);have hkd:builtinKind "BaseException.__getattribute__"=some .slot:=by decide +kernel
 have hsp:splitId "BaseException.__getattribute__"=some ("BaseException","__getattribute__"):=by decide +kernel
 refine codeAny_call_builtin FB.ga.plain F.entry_bexc_ga (@check_slot (model prog w) _ _ s "BaseException.__getattribute__" "BaseException" "__getattribute__" (.ref x) [.str name tk] [] _ hkd hsp hi (F.args_bexc_ga (.ref x) (.str name tk)) ?_);refine bT (he _ _ ?_) (λ_ _ z=>z) λ_ _ z=>z.elim;show wpAny _ _ (handedOut v) _ _ _;rw[handedOut_of hh];exact aD hq
end
theorem cls_get(K:Frag):specialIn K (.builtin "object.__class__") "__get__"=some (some (.builtin "getset_descriptor.__get__")):=(by decide +kernel:specialIn [] (.builtin "object.__class__") "__get__"=some (some (.builtin "getset_descriptor.__get__")))
theorem cls_takes(K:Frag):takesIn K (.builtin "object.__class__")=some true:=(by decide +kernel:takesIn [] (.builtin "object.__class__")=some true)
section
variable{prog:Program}{w:World}{A:Around}{E:Value->Shared->Prop}{s:Shared}{K:Frag}{c:Str}{x C L:Addr}{cd:ClassData}{ox:Obj}{od:Option Obj}
theorem XStd.fclass(S:XStd K c C L cd)(od:Option Obj):findObj K C od "__class__"=some (.bind (.builtin "getset_descriptor.__get__") (.builtin "object.__class__")):=by unfold findObj;rw[S.cls,Option.bind_some,S.gc,Option.bind_some];simp[cls_get,cls_takes]
theorem xattr_class{Q:Option Value->Shared->Prop}(S:XStd K c C L cd)(X:K.In s.heap)(I:InstAt s.heap x ox C od)(hq:Q (some (.ref C)) {s with toks:=s.toks+1}) :
  wpAny (model prog w) A (getAttr? (.ref x) "__class__") Q E s:=by
 obtain⟨hh,g,d,t,os⟩:=s;unfold getAttr? getAttrBy?;refine ak (wpAny_mkText (ak (wpAny_attempt ?_)));exact xget_by (s:=⟨hh,g,d,t+1,os⟩) (ox:=ox) (od:=od) S X I (λA' Q' q=>xclass_entry (s:=⟨hh,g,d,t+1,os⟩) S X I (S.fclass od) q) rfl (aD hq)
theorem kitx_exc(S:XStd K c C L cd):KitX K (.ref x) (.ref C) (λh=>∃ox od,InstAt h x ox C od) where
 ty:=λ_ _ _ ⟨_,_,I⟩=>I.type
 it:=λ_ _ X _=>by
  have hc:=S.cls;unfold clsIn at hc;split at hc
  . rename_i ho;intro A' Q' E' s' k q;unfold isType loadHead;exact ak (wpAny_loadPart (k _ _ (X _ _ ho)) (aD q))
  . cases hc
 ne:=λh tp dd its n sl X htp=>by
  refine Bool.eq_false_iff.mpr λq=>?_;have e:C=tp:=Value.ref.inj (beq_iff_eq.mp q);subst e;have hc:=S.cls;unfold clsIn at hc;split at hc
  . rename_i ho;have z:=(X _ _ ho).symm.trans htp;cases z
  . cases hc
 ca:=λX ⟨_,_,I⟩ k=>xattr_class S X I k
end
end L2
namespace L2
open PySem PySem.Spec PyProof.Rows
section
variable{X:Cx}{ab:List (Addr×Obj)}{σ:St}{H:Hp}{s:Shared}
theorem Inv.reword{a:Addr}{u w:HO}(I:Inv X ab σ H s)(h:H a=some u)(hu:¬Pers u)(hw:∀y,u≠.own y)(nw:ObjOk X.prog X.w H s.heap a w)(hw2:∀C dx fs,w≠.ins C dx fs):Inv X ab σ (upd H a w) s:=by
 have ne:∀b,H b=none->b≠a:=λb n e=>by subst e;rw[h]at n;cases n
 have nt:∀b xs,H b=some (.tup xs)->b≠a:=λb xs n e=>by subst e;rw[h]at n;cases n;exact hu True.intro
 have nf:∀b o z,H b=some (.frz o z)->b≠a:=λb o z n e=>by subst e;rw[h]at n;cases n;exact hu True.intro
 have no:∀b z,H b=some (.own z)->b≠a:=λb z n e=>by subst e;rw[h]at n;cases n;exact hw _ rfl
 refine⟨I.ok,I.os,I.bare,⟨I.base.keep,I.base.slot,λb ob e n hx=>?_,I.base.there,λb xs e=>?_,λb ob z e=>?_,λb ps e=>?_⟩,I.loc,I.cell,?_,λx c e=>?_,λp hp=>?_,λb z e=>?_,I.len⟩
 . have q:=I.base.free b ob e n hx;rw[upd_ne (ne b q)];exact q
 . have q:=I.base.tups b xs e;rw[upd_ne (nt b xs q)];exact q
 . have q:=I.base.frzs b ob z e;rw[upd_ne (nf b ob z q)];exact q
 . have q:=I.base.tbls b ps e;rw[upd_ne (λz=>by subst z;rw[h]at q;cases q;exact hu True.intro)];exact q
 . rw[upd_ne (ne _ I.free)];exact I.free
 .
  rcases I.freeC x c e with z|⟨hf,o,z⟩
  . exact .inl (by rw[upd_ne (ne _ z)];exact z)
  . exact .inr ⟨hf,o,by rw[upd_ne (nf _ _ _ z)];exact z⟩
 . obtain⟨e,n,r⟩:=I.pin p hp;exact⟨e,by rw[upd_ne (ne _ n)];exact n,r⟩
 .
  by_cases hb:b=a
  . subst hb;rw[upd_same]at e;cases e;exact nw.stay (λc v _ q=>q) (λc q=>by rw[upd_ne (no c _ q)];exact q) (λc xs q=>by rw[upd_ne (nt c xs q)];exact q) λc ob _ _ q=>by rw[upd_ne (nf c ob _ q)];exact q
  . rw[upd_ne hb]at e;exact(I.hok b z e).stay (λc v _ q=>q) (λc q=>by rw[upd_ne (no c _ q)];exact q) (λc xs q=>by rw[upd_ne (nt c xs q)];exact q) λc ob _ _ q=>by rw[upd_ne (nf c ob _ q)];exact q
theorem Inv.freezeL{a:Addr}{xs:List V}(I:Inv X ab σ H s)(h:H a=some (.lst xs)):∃o,Inv X ab σ (upd H a (.frz o (.lst xs))) s:=by obtain⟨z,its,n,r,e⟩:=id (I.hok a _ h);exact⟨_,I.reword h (λq=>q) (λ_ q=>nomatch q) ⟨e,z,its,n,r,e⟩ (λ_ _ _ q=>nomatch q)⟩
end
section
variable{K:PySem.W.Frag}{Pr H:Hp}{σ:St}{Z:Ev}
theorem REnv.new(E:REnv K Pr H σ Z){p:Addr}{o:HO}(h:H p=none):REnv K Pr (upd H p o) σ Z:=by
 have k:∀b u,H b=some u->upd H p o b=some u:=λb u e=>by rw[upd_ne (ne_of_none e h)];exact e
 exact⟨λb u e=>k b u (E.sub b u e),E.nd,E.off,Paired.impMem E.sl λl hl s q=>q.pres (λb u _ e=>k b u e) l λa e=>by
  obtain⟨vs,e,_⟩:=E.at_own (mem_owns.mpr ⟨l,hl,e⟩)
  rw[k _ _ e,e]⟩
theorem Reps.new{vs:List V}{ds:List D}(r:Reps K H vs ds){p:Addr}{o:HO}(h:H p=none):Reps K (upd H p o) vs ds:=r.pres λb u _ e=>by rw[upd_ne (ne_of_none e h)];exact e
theorem owns_cons_un:owns (.un::Z)=owns Z:=rfl
theorem owns_cons_own{a:Addr}{xs:List D}:owns (.own a xs::Z)=a::owns Z:=rfl
theorem REnv.cons_d(E:REnv K Pr H σ Z){v:V}{x:D}(r:Rep K H v x):REnv K Pr H (some v::σ) (.d x::Z):=⟨E.sub,E.nd,E.off,.cons ⟨v,rfl,r⟩ E.sl⟩
theorem REnv.cons_un(E:REnv K Pr H σ Z){v:Option V}:REnv K Pr H (v::σ) (.un::Z):=⟨E.sub,E.nd,E.off,.cons True.intro E.sl⟩
theorem REnv.cons_own(E:REnv K Pr H σ Z){p:Addr}{vs:List V}{xs:List D}(h:H p=none)(r:Reps K H vs xs):REnv K Pr (upd H p (.lst vs)) (some (.ref p)::σ) (.own p xs::Z):=by
 have E':=E.new (o:=.lst vs) h;refine⟨E'.sub,?_,λa ha=>?_,.cons ⟨rfl,vs,upd_same,r.new h⟩ E'.sl⟩
 . rw[owns_cons_own];refine aO.mpr ⟨λhm=>?_,E.nd⟩;obtain⟨us,e,_⟩:=E.at_own hm;rw[h]at e;cases e
 .
  rw[owns_cons_own]at ha;rcases az.mp ha with rfl|ha
  .
   cases q:Pr a with
   |none=>rfl
   |some u=>rw[E.sub a u q]at h;cases h
  . exact E.off a ha
theorem REnv.cons_tup(E:REnv K Pr H σ Z){p:Addr}{vs:List V}{xs:List D}(h:H p=none)(r:Reps K H vs xs):REnv K Pr (upd H p (.tup vs)) (some (.ref p)::σ) (.d (.tup xs)::Z) :=
 (E.new h).cons_d (.tup (SqT.of upd_same) (r.new h))
theorem REnv.freeze(E:REnv K Pr H σ (.own a xs::Z)){vs:List V}(h:H a=some (.lst vs))(o:Obj):REnv K Pr (upd H a (.frz o (.lst vs))) σ (.d (.lst xs)::Z):=by
 have pa:Pr a=none:=E.off a (by rw[owns_cons_own];exact ai);have nd:=E.nd;rw[owns_cons_own]at nd;obtain⟨hn,nd⟩:=aO.mp nd;have p:Pres H (upd H a (.frz o (.lst vs))):=λb u pu e=>by rw[upd_ne];exact e;rintro rfl;rw[h]at e;cases e;exact pu
 refine⟨λb u e=>?_,nd,λb hb=>E.off b (by rw[owns_cons_own];exact ag _ hb),?_⟩
 . rw[upd_ne];exact E.sub b u e;rintro rfl;rw[pa]at e;cases e
 .
  have sl:=E.sl
  cases sl with
  | cons q t =>
   obtain⟨e,us,e2,r⟩:=q;rw[h]at e2;cases e2;refine .cons ⟨.ref a,e,.lst (.inl ⟨o,upd_same⟩) (r.pres p)⟩ (Paired.impMem t λl hl s z=>z.pres p l λb hbm=>?_);rw[upd_ne];rintro rfl;exact hn (mem_owns.mpr ⟨l,hl,hbm⟩)
theorem owns_cons(l:L)(Z:Ev):owns (l::Z)=ownsL l++owns Z:=rfl
theorem owns_takeL{k:L}:∀{Z:Ev}{i:Nat}{l:L},Z[i]?=some k->ownsL l=[]->(owns Z).Perm (ownsL k++owns (Z.set i l))
 |[],_,_,h,_=>by simp at h
 | _::Z,0,l,h,hl=>by simp at h;subst h;show(owns (_::Z)).Perm (_++owns (l::Z));rw[owns_cons,owns_cons,hl];exact List.Perm.refl _
 | m::Z,i+1,l,h,hl=>by have ih:=owns_takeL (i:=i) (Z:=Z) (l:=l) (by simpa using h) hl;show(owns (m::Z)).Perm (ownsL k++owns (m::Z.set i l));rw[owns_cons,owns_cons];refine(List.Perm.append_left _ ih).trans ?_;rw[<- aV,<- aV];exact List.Perm.append_right _ aX
theorem owns_take{a:Addr}{xs:List D}{Z:Ev}{i:Nat}{l:L}(h:Z[i]?=some (.own a xs))(hl:ownsL l=[]):(owns Z).Perm (a::owns (Z.set i l)):=owns_takeL h hl
theorem owns_put{Z:Ev}{i:Nat}(l:L)(h:Z[i]?=some .un):(owns (Z.set i l)).Perm (ownsL l++owns Z):=by
 have hi:i<Z.length:=(ah.mp h).1;have pm:=owns_takeL (Z:=Z.set i l) (i:=i) (k:=l) (l:=.un) (by simp[hi]) rfl;rw[bR]at pm;have e2:Z.set i .un=Z:=by have:=List.set_getElem_self (as:=Z) (i:=i) hi;have e3:Z[i]=.un:=(ah.mp h).2;rw[e3]at this;exact this
 rw[e2]at pm;exact pm
theorem REnv.outL(E:REnv K Pr H σ Z){i:Nat}{k:L}{s:Option V}(h:Z[i]?=some k)(hs:σ[i]?=some s):REnv K Pr H (s::σ) (k::Z.set i .un):=by have pm:=owns_takeL (l:=.un) h rfl;obtain⟨s',hs',q⟩:=Paired.get2 E.sl h;rw[hs]at hs';cases hs';refine⟨E.sub,?_,λb hb=>E.off b (pm.mem_iff.mpr (by rw[owns_cons]at hb;exact hb)),.cons q (Paired.set_r i E.sl λ_ _=>by simp only[Slot1])⟩;rw[owns_cons];exact pm.nodup_iff.mp E.nd
theorem REnv.out(E:REnv K Pr H σ Z){i:Nat}{a:Addr}{xs:List D}(h:Z[i]?=some (.own a xs)):REnv K Pr H (some (.ref a)::σ) (.own a xs::Z.set i .un):=by
 have pm:=owns_take (l:=.un) h rfl;obtain⟨s,hs,q⟩:=Paired.get2 E.sl h;refine⟨E.sub,?_,λb hb=>E.off b (pm.mem_iff.mpr (by rw[owns_cons_own]at hb;exact hb)),.cons ?_ (Paired.set_r i E.sl λ_ _=>by simp only[Slot1])⟩
 . rw[owns_cons_own];exact pm.nodup_iff.mp E.nd
 . obtain⟨_,r⟩:=q;exact⟨rfl,r⟩
theorem REnv.back{v:Option V}{l:L}(E:REnv K Pr H (v::σ) (l::Z)){i:Nat}(h:Z[i]?=some .un)(hs:σ[i]?=some v):REnv K Pr H σ (Z.set i l):=by
 have sl:=E.sl
 cases sl with
 | cons q t =>
  have e1:Z.set i l=(Z.set i l):=rfl;refine⟨E.sub,?_,λb hb=>?_,Paired.set_r i t λa e=>by rw[hs]at e;cases e;exact q⟩
  . exact(owns_put l h).nodup_iff.mpr E.nd
  . exact E.off b ((owns_put l h).mem_iff.mp hb)
theorem REnv.write(E:REnv K Pr H σ (.own a xs::Z)){vs:List V}{ys:List D}(r:Reps K H vs ys):REnv K Pr (upd H a (.lst vs)) σ (.own a ys::Z):=by
 have pa:Pr a=none:=E.off a (by rw[owns_cons_own];exact ai);have nd:=E.nd;rw[owns_cons_own]at nd;obtain⟨hn,nd'⟩:=aO.mp nd;obtain⟨us,ha,mu⟩:=E.at_own (a:=a) (by rw[owns_cons_own];exact ai);have p:Pres H (upd H a (.lst vs)):=λb u pu e=>by rw[upd_ne];exact e;rintro rfl;rw[ha]at e;cases e;exact mu.no pu
 refine⟨λb u e=>?_,nd,λb hb=>E.off b hb,?_⟩
 . rw[upd_ne];exact E.sub b u e;rintro rfl;rw[pa]at e;cases e
 .
  have sl:=E.sl
  cases sl with
  | cons q t =>
   obtain⟨e,_⟩:=q;refine .cons ⟨e,vs,upd_same,r.pres p⟩ (Paired.impMem t λl hl s z=>z.pres p l λb hbm=>?_);rw[upd_ne];rintro rfl;exact hn (mem_owns.mpr ⟨l,hl,hbm⟩)
end
noncomputable abbrev W(α:Type):=Ev->(α->Ev->Prop)->Prop
inductive Fl where
 |nx|bk|ct|rt (r:L)
def EL(X:Cx)(ab:List (Addr×Obj))(σ:St)(Pr:Hp)(af:L->Ev->Prop)(u:Value)(s':Shared):Prop :=
 ∃v H' r Z',Inv X ab σ H' s'/\RelV v u/\REnv X.K Pr H' (some v::σ) (r::Z')/\af r Z'
def PL(X:Cx)(e:Expr)(t:W L):Prop :=
 ∀(ab:List (Addr×Obj))(s:Shared)(σ:St)(H Pr:Hp)(Z:Ev)(af:L->Ev->Prop),Inv X ab σ H s->REnv X.K Pr H σ Z->t Z af->wpAny (model X.prog X.w) X.A (eval e X.env) (EL X ab σ Pr af) X.xe s
def EB(X:Cx)(ab:List (Addr×Obj))(σ:St)(Pr:Hp)(af:Bool->Ev->Prop)(b:Bool)(s':Shared):Prop :=
 ∃H' Z',Inv X ab σ H' s'/\REnv X.K Pr H' σ Z'/\af b Z'
def PB(X:Cx)(e:Expr)(t:W Bool):Prop :=
 ∀(ab:List (Addr×Obj))(s:Shared)(σ:St)(H Pr:Hp)(Z:Ev)(af:Bool->Ev->Prop),Inv X ab σ H s->REnv X.K Pr H σ Z->t Z af->wpAny (model X.prog X.w) X.A (isTrue e X.env (eval e X.env)) (EB X ab σ Pr af) X.xe s
def EA(X:Cx)(ab:List (Addr×Obj))(σ:St)(Pr:Hp)(bs:List (Option Nat))(af:List L->Ev->Prop)(us:List Value)(s':Shared):Prop :=
 ∃vs H' ls Z',Inv X ab σ H' s'/\Vals vs us/\vs.length=ls.length/\vs.length=bs.length/\REnv X.K Pr H' (vs.map some++σ) (ls++Z')/\(∀(k i:Nat),bs[k]?=some (some i)->ls[k]?=some L.un/\∃v,vs[k]?=some v/\σ[i]?=some (some v))/\af ls Z'
def PAL(X:Cx)(es:List Expr)(bs:List (Option Nat))(t:W (List L)):Prop :=
 ∀(pos:Pos)(ab:List (Addr×Obj))(s:Shared)(σ:St)(H Pr:Hp)(Z:Ev)(af:List L->Ev->Prop),Inv X ab σ H s->REnv X.K Pr H σ Z->t Z af ->
  wpAny (model X.prog X.w) X.A (spliced (backTo pos (starEach es X.env))) (EA X ab σ Pr bs af) X.xe s
def SM(X:Cx)(ab:List (Addr×Obj))(Pr:Hp)(af:Fl->Ev->Prop)(f:Flow)(s':Shared):Prop :=
 match f with
 |.next=>∃σ' H' Z',Inv X ab σ' H' s'/\REnv X.K Pr H' σ' Z'/\af .nx Z'
 |.brk=>∃σ' H' Z',Inv X ab σ' H' s'/\REnv X.K Pr H' σ' Z'/\af .bk Z'
 |.cont=>∃σ' H' Z',Inv X ab σ' H' s'/\REnv X.K Pr H' σ' Z'/\af .ct Z'
 |.ret u=>∃v σ' H' r Z' τ,Inv X ab σ' H' s'/\RelV v u/\REnv X.K Pr H' (some v::τ) (r::Z')/\af (.rt r) Z'
def PM(X:Cx)(st:Stmt)(t:W Fl):Prop :=
 ∀(ab:List (Addr×Obj))(s:Shared)(σ:St)(H Pr:Hp)(Z:Ev)(af:Fl->Ev->Prop),Inv X ab σ H s->REnv X.K Pr H σ Z->t Z af->wpAny (model X.prog X.w) X.A (exec st X.env) (SM X ab Pr af) X.xe s
def PMs(X:Cx)(st:List Stmt)(t:W Fl):Prop :=
 ∀(ab:List (Addr×Obj))(s:Shared)(σ:St)(H Pr:Hp)(Z:Ev)(af:Fl->Ev->Prop),Inv X ab σ H s->REnv X.K Pr H σ Z->t Z af->wpAny (model X.prog X.w) X.A (execs st X.env) (SM X ab Pr af) X.xe s
section
variable{X:Cx}{e a b:Expr}{pos:Pos}{ta tb:W L}
theorem PL.of{t:TE}{u:W L}(h:PE X e t)(q:∀σ H Pr Z af,REnv X.K Pr H σ Z->u Z af->t σ H λv H'=>∃r Z',REnv X.K Pr H' (some v::σ) (r::Z')/\af r Z'):PL X e u :=
 λab s σ H Pr Z af I E hu=>thn (h ab s σ H _ I (q σ H Pr Z af E hu)) λu s1 ⟨v,H1,I1,r1,r,Z',E1,p⟩=>⟨v,H1,r,Z',I1,r1,E1,p⟩
mutual
noncomputable def eraseL:L->Option D
 |.un=>none
 |.d x=>some x
 |.own _ xs=>some (.lst xs)
 |.bx none ls=>(eraseLs ls).map .tup
 |.bx (some _) ls=>(eraseLs ls).map .lst
 |.dic _ _=>none
noncomputable def eraseLs:List L->Option (List D)
 |[]=>some []
 | l::ls=>match eraseL l,eraseLs ls with
  |some x,some xs=>some (x::xs)
  |_,_=>none
end
def isSome':Option D->(D->Prop)->Prop
 |some x,k=>k x
 |none,_=>False
theorem isSome'_is{o:Option D}{k:D->Prop}(h:isSome' o k):∃x,o=some x/\k x:=by
 cases o with
 |some x=>exact⟨x,rfl,h⟩
 |none=>exact h.elim
def toDB(a:Option Addr)(ls:List L)(k:D->Prop):Prop:=isSome' (eraseL (.bx a ls)) k
def toD:L->(D->Prop)->Prop
 |.un,_=>False
 |.d x,k=>k x
 |.own _ xs,k=>k (.lst xs)
 |.bx a ls,k=>toDB a ls k
 |.dic _ _,_=>False
theorem toDB_is{a:Option Addr}{ls:List L}{k:D->Prop}(h:toDB a ls k):∃x,eraseL (.bx a ls)=some x/\k x:=isSome'_is h
def eraK(ls:List L)(k:List D->Prop):Prop:=∃xs,eraseLs ls=some xs/\k xs
theorem toDB_t(ls:List L)(k:D->Prop):toDB none ls k=eraK ls λxs=>k (.tup xs):=by
 unfold toDB eraK;simp only[eraseL]
 cases eraseLs ls with
 |none=>simp[isSome']
 |some xs=>simp[isSome']
theorem toDB_o(a:Addr)(ls:List L)(k:D->Prop):toDB (some a) ls k=eraK ls λxs=>k (.lst xs):=by
 unfold toDB eraK;simp only[eraseL]
 cases eraseLs ls with
 |none=>simp[isSome']
 |some xs=>simp[isSome']
theorem eraK_nil(k:List D->Prop):eraK [] k=k []:=by unfold eraK;simp[eraseLs]
theorem toD_era(l:L)(k:D->Prop):toD l k=∃x,eraseL l=some x/\k x:=by
 cases l with
 |un=>simp[toD,eraseL]
 |d x=>simp[toD,eraseL]
 |own a xs=>simp[toD,eraseL]
 | bx a ls =>
  show isSome' _ k=_
  cases eraseL (.bx a ls)with
  |none=>simp[isSome']
  |some x=>simp[isSome']
 |dic a kvs=>simp[toD,eraseL]
theorem eraK_cons(l:L)(ls:List L)(k:List D->Prop):eraK (l::ls) k=toD l λx=>eraK ls λxs=>k (x::xs):=by
 rw[toD_era];unfold eraK;simp only[eraseLs]
 cases eraseL l with
 |none=>simp
 | some x =>
  cases eraseLs ls with
  |none=>simp
  |some xs=>simp
theorem slots_paired{K:PySem.W.Frag}{H:Hp}:∀{vs:List V}{ls:List L},Slots K H vs ls↔Paired (Slot1 K H) (vs.map some) ls
 |[],[]=>⟨λ_=>.nil,λ_=>by simp only[Slots]⟩
 | v::vs,l::ls=>by
  simp only[Slots,aL];constructor
  . rintro⟨w,us,e,h1,h2⟩;cases e;exact .cons h1 (slots_paired.mp h2)
  .
   intro h
   cases h with
   |cons q t=>exact⟨v,vs,rfl,q,slots_paired.mpr t⟩
 | [],l::ls=>by
  simp only[Slots,List.map_nil];constructor
  . rintro⟨w,us,e,_⟩;cases e
  . intro h;cases h
 | v::vs,[]=>by
  simp only[Slots,aL];constructor
  . intro h;cases h
  . intro h;cases h
theorem reps_at{K:PySem.W.Frag}{H:Hp}:∀{vs:List V}{xs:List D},Paired (Slot1 K H) (vs.map some) (xs.map .d)->Reps K H vs xs
 |[],[],_=>.nil
 | v::vs,x::xs,h=>by
  simp only[aL]at h
  cases h with
  | cons q t =>
   simp only[Slot1]at q;obtain⟨w,e,r⟩:=q;cases e;exact .cons r (reps_at t)
 |[],_::_,h=>by simp only[aL,List.map_nil]at h;cases h
 |_::_,[],h=>by simp only[aL,List.map_nil]at h;cases h
theorem Slots.len{K:PySem.W.Frag}{H:Hp}{vs:List V}{ls:List L}(h:Slots K H vs ls):vs.length=ls.length:=by have:=Paired.length (slots_paired.mp h);simpa using this
theorem eraseLs_len:∀{ls:List L}{xs:List D},eraseLs ls=some xs->xs.length=ls.length
 |[],_,h=>by simp[eraseLs]at h;subst h;rfl
 | l::ls,xs,h=>by
  simp only[eraseLs]at h;split at h
  . rename_i x ys h1 h2;cases h;simp[eraseLs_len h2]
  . cases h
theorem REnv.openT{K:PySem.W.Frag}{Pr H:Hp}{σ:St}{Z:Ev}{v:Option V}{ls:List L}(E:REnv K Pr H (v::σ) (.bx none ls::Z)):∃a vs,v=some (.ref a)/\SqT K H a vs/\vs.length=ls.length/\REnv K Pr H (vs.map some++σ) (ls++Z):=by
 have sl:=E.sl
 cases sl with
 | cons q t =>
  simp only[Slot1]at q;obtain⟨a,vs,e,h,r⟩:=q;have ow:owns (.bx none ls::Z)=owns (ls++Z):=by rw[owns_cons,owns_append];simp only[ownsL,Option.toList,List.nil_append,ownsLs_eq]
  exact⟨a,vs,e,h,r.len,E.sub,by rw[<- ow];exact E.nd,λb hb=>E.off b (by rw[ow];exact hb),Paired.app (slots_paired.mp r) t⟩
theorem REnv.openO{K:PySem.W.Frag}{Pr H:Hp}{σ:St}{Z:Ev}{v:Option V}{a:Addr}{ls:List L}(E:REnv K Pr H (v::σ) (.bx (some a) ls::Z)):∃vs,v=some (.ref a)/\H a=some (.lst vs)/\vs.length=ls.length/\a∉owns (ls++Z)/\Pr a=none/\REnv K Pr H (vs.map some++σ) (ls++Z):=by
 have sl:=E.sl
 cases sl with
 | cons q t =>
  simp only[Slot1]at q;obtain⟨e,vs,h,r⟩:=q;have ow:owns (.bx (some a) ls::Z)=a::owns (ls++Z):=by rw[owns_cons,owns_append];simp only[ownsL,Option.toList,List.cons_append,List.nil_append,ownsLs_eq]
  have nd:=E.nd;rw[ow]at nd;obtain⟨n1,n2⟩:=aO.mp nd;exact⟨vs,e,h,r.len,n1,E.off a (by rw[ow];exact ai),E.sub,n2,λb hb=>E.off b (by rw[ow];exact ag _ hb),Paired.app (slots_paired.mp r) t⟩
def Frozen(H H':Hp)(S:List Addr):Prop:=Pres H H'/\(∀b,b∉S->H' b=H b)/\∀a∈S,∀vs,H a=some (.lst vs)->∃o,H' a=some (.frz o (.lst vs))
theorem Frozen.refl(H:Hp):Frozen H H []:=⟨λ_ _ _ e=>e,λ_ _=>rfl,λ_ h=>by simp at h⟩
mutual
theorem frzL:∀(l:L){ab:List (Addr×Obj)}{σ0:St}{s:Shared}{Pr H:Hp}{σ:St}{Z:Ev}{v:Option V}{x:D},Inv X ab σ0 H s->REnv X.K Pr H (v::σ) (l::Z)->eraseL l=some x->∃H',Inv X ab σ0 H' s/\REnv X.K Pr H' (v::σ) (.d x::Z)/\Frozen H H' (ownsL l)
 |.un,_,_,_,_,_,_,_,_,_,_,_,h=>by simp[eraseL]at h
 |.dic _ _,_,_,_,_,_,_,_,_,_,_,_,h=>by simp[eraseL]at h
 | .d y,_,_,_,_,_,_,_,_,_,I,E,h=>by
  simp only[eraseL,aG]at h
  subst h
  exact⟨_,I,E,Frozen.refl _⟩
 | .own a xs,_,_,_,_,H,σ,Z,v,_,I,E,h=>by
  simp only[eraseL,aG]at h
  subst h
  have sl:=E.sl
  cases sl with
  | cons q t =>
   simp only[Slot1]at q
   obtain⟨e0,vs,ha,r⟩:=q
   obtain⟨o,I'⟩:=I.freezeL ha
   refine⟨_,I',E.freeze ha o,λb u pu eb=>?_,λb hb=>?_,λb hb vs' eb=>?_⟩
   .
    rw[upd_ne];exact eb
    rintro rfl
    rw[ha]at eb;cases eb;exact pu
   .
    rw[upd_ne]
    rintro rfl
    exact hb (by simp[ownsL])
   .
    have e:b=a:=by simpa[ownsL]using hb
    subst e
    rw[ha]at eb;cases eb
    exact⟨o,upd_same⟩
 | .bx none ls,_,_,_,Pr,H,σ,Z,v,x,I,E,h=>by
  simp only[eraseL,Option.map_eq_some_iff]at h
  obtain⟨xs,h,rfl⟩:=h
  obtain⟨a,vs,rfl,ha,hl,E1⟩:=E.openT
  obtain⟨H',I',E',F⟩:=frzLs ls hl I E1 h
  have hxl:=eraseLs_len h
  obtain⟨s1,s2⟩:=Paired.unapp (by simp[hl,hxl]) E'.sl
  refine⟨H',I',(E'.drop (by simp[hl,hxl])).cons_d (.tup (ha.pres F.1) (reps_at s1)),F.1,λb hb=>F.2.1 b ?_,λb hb=>F.2.2 b ?_⟩
  .
   simpa[ownsL,ownsLs_eq]using hb
  .
   simpa[ownsL,ownsLs_eq]using hb
 | .bx (some a) ls,_,_,_,Pr,H,σ,Z,v,x,I,E,h=>by
  simp only[eraseL,Option.map_eq_some_iff]at h
  obtain⟨xs,h,rfl⟩:=h
  obtain⟨vs,rfl,ha,hl,hn,hp,E1⟩:=E.openO
  obtain⟨H',I',E',F⟩:=frzLs ls hl I E1 h
  have hxl:=eraseLs_len h
  have hal:a∉owns ls:=λz=>hn (by rw[owns_append];exact au _ z)
  have haρ:a∉owns Z:=λz=>hn (by rw[owns_append];exact ar _ z)
  have ha':H' a=some (.lst vs):=(F.2.1 a hal).trans ha
  obtain⟨s1,s2⟩:=Paired.unapp (by simp[hl,hxl]) E'.sl
  have E2:=E'.drop (by simp[hl,hxl])
  have E3:REnv X.K Pr H' (some (.ref a)::σ) (.own a xs::Z):=by
   refine⟨E2.sub,?_,λb hb=>?_,.cons ?_ E2.sl⟩
   .
    rw[owns_cons_own];exact aO.mpr ⟨haρ,E2.nd⟩
   .
    rw[owns_cons_own]at hb
    rcases az.mp hb with z|z
    .
     rw[z];exact hp
    .
     exact E2.off b z
   .
    unfold Slot1
    exact⟨rfl,vs,ha',reps_at s1⟩
  obtain⟨o,I2⟩:=I'.freezeL ha'
  refine⟨_,I2,E3.freeze ha' o,λb u pu e=>?_,λb hb=>?_,λb hb vs' eb=>?_⟩
  .
   rw[upd_ne];exact F.1 b u pu e
   rintro rfl
   rw[ha]at e;cases e;exact pu
  .
   have hb':b≠a/\b∉owns ls:=by simpa[ownsL,ownsLs_eq,not_or]using hb
   rw[upd_ne hb'.1]
   exact F.2.1 b hb'.2
  .
   by_cases hba:b=a
   .
    subst hba
    rw[ha]at eb;cases eb
    exact⟨o,upd_same⟩
   .
    have hb':b∈owns ls:=by
     rcases(by simpa[ownsL,ownsLs_eq]using hb:b=a∨b∈owns ls)with z|z
     .
      exact absurd z hba
     .
      exact z
    rw[upd_ne hba]
    exact F.2.2 b hb' vs' eb
theorem frzLs:∀(ls:List L){ab:List (Addr×Obj)}{σ0:St}{s:Shared}{Pr H:Hp}{σ:St}{Z:Ev}{vs:List V}{xs:List D},vs.length=ls.length->Inv X ab σ0 H s->REnv X.K Pr H (vs.map some++σ) (ls++Z)->eraseLs ls=some xs->∃H',Inv X ab σ0 H' s/\REnv X.K Pr H' (vs.map some++σ) (xs.map .d++Z)/\Frozen H H' (owns ls)
 | [],_,_,_,_,_,_,_,vs,xs,hl,I,E,h=>by
  simp only[eraseLs,aG]at h
  subst h
  cases vs with
  |nil=>exact⟨_,I,E,Frozen.refl _⟩
  |cons _ _=>simp at hl
 | l::ls,_,_,_,Pr,H,σ,Z,vs,xs,hl,I,E,h=>by
  simp only[eraseLs]at h
  split at h
  rotate_left
  .
   cases h
  rename_i x ys h1 h2
  cases h
  cases vs with
  |nil=>simp at hl
  | cons v vs =>
   have hl':vs.length=ls.length:=by simpa using hl
   obtain⟨H1,I1,E1,F1⟩:=frzL l I E h1
   have E2:REnv X.K (butOwn H1 (ls++Z)) H1 (vs.map some++σ) (ls++Z):=(E1.drop (τ:=[some v]) (lam:=[.d x]) rfl).wide
   obtain⟨H2,I2,E3,F2⟩:=frzLs ls hl' I1 E2 h2
   have hyl:=eraseLs_len h2
   have E4:REnv X.K Pr H2 (some v::(vs.map some++σ)) (.d x::(ys.map .d++Z)):=by
    have z:=REnv.step (τ:=[some v]) (lam:=[.d x]) (w:=[]) (μ:=[]) (σ':=vs.map some++σ) (Z':=ys.map .d++Z) E1 rfl E3 rfl
    exact z
   refine⟨H2,I2,E4,λb u pu e=>F2.1 b u pu (F1.1 b u pu e),λb hb=>?_,λb hb vs' eb=>?_⟩
   .
    rw[owns_cons]at hb
    rw[F2.2.1 b (λz=>hb (ar _ z)),F1.2.1 b (λz=>hb (au _ z))]
   .
    rw[owns_cons]at hb
    rcases aM.mp hb with z|z
    .
     obtain⟨o,eo⟩:=F1.2.2 b z vs' eb
     exact⟨o,F2.1 b _ True.intro eo⟩
    .
     have hn:b∉ownsL l:=λz'=>by
      have nd:=E.nd
      rw[List.cons_append,owns_cons,owns_append]at nd
      exact(aJ.mp nd).2.2 b z' b (au _ z) rfl
     exact F2.2.2 b z vs' ((F1.2.1 b hn).trans eb)
end
theorem EL.frz{ab:List (Addr×Obj)}{σ:St}{Pr:Hp}{af:D->Ev->Prop}{u:Value}{s':Shared}(h:EL X ab σ Pr (λr Z=>toD r λx=>af x Z) u s') :
  ∃v H' x Z',Inv X ab σ H' s'/\RelV v u/\REnv X.K Pr H' (some v::σ) (.d x::Z')/\af x Z':=by
 obtain⟨v,H',r,Z',I,rv,E,p⟩:=h
 cases r with
 |un=>exact p.elim
 |d x=>exact⟨v,H',x,Z',I,rv,E,p⟩
 | own a xs =>
  obtain⟨H2,I2,E2,_⟩:=frzL (.own a xs) I E rfl;exact⟨v,H2,.lst xs,Z',I2,rv,E2,p⟩
 | bx a ls =>
  obtain⟨x,ex,p⟩:=toDB_is p;obtain⟨H2,I2,E2,_⟩:=frzL (.bx a ls) I E ex;exact⟨v,H2,x,Z',I2,rv,E2,p⟩
 |dic a kvs=>exact p.elim
def wFrz(t:W L):W L:=λZ af=>t Z λr Z1=>toD r λx=>af (.d x) Z1
theorem pl_frz{t:W L}(h:PL X e t):PL X e (wFrz t):=λab s σ H Pr Z af I E ht =>
 thn (h ab s σ H Pr Z _ I E ht) λu s1 q=>by obtain⟨v,H',x,Z',I',rv,E',p⟩:=EL.frz (af:=λx Z=>af (.d x) Z) q;exact⟨v,H',.d x,Z',I',rv,E',p⟩
theorem REnv.head_d{K:PySem.W.Frag}{Pr H:Hp}{v:Option V}{σ:St}{x:D}{Z:Ev}(E:REnv K Pr H (v::σ) (.d x::Z)):∃w,v=some w/\Rep K H w x:=by
 have sl:=E.sl
 cases sl with
 |cons q t=>exact q
theorem REnv.tail{K:PySem.W.Frag}{Pr H:Hp}{v:Option V}{σ:St}{l:L}{Z:Ev}(E:REnv K Pr H (v::σ) (l::Z)):REnv K Pr H σ Z:=REnv.drop (τ:=[v]) (lam:=[l]) E rfl
theorem two{ab:List (Addr×Obj)}{s:Shared}{σ:St}{H Pr:Hp}{Z:Ev}{R:D->D->Ev->Prop}(ha:PL X a ta)(hb:PL X b tb)(I:Inv X ab σ H s)(E:REnv X.K Pr H σ Z)
  (h:ta Z λx Z1=>toD x λdx=>tb Z1 λy Z2=>toD y λdy=>R dx dy Z2) {α:Type} {Q:α->Shared->Prop} {f:Value->Value->Sem α}
  (hf:∀v u s2 x y H2 dx dy Z2,Inv X ab σ H2 s2->RelV x v->RelV y u->REnv X.K Pr H2 (some y::some x::σ) (.d dy::.d dx::Z2)->Rep X.K H2 x dx->Rep X.K H2 y dy->R dx dy Z2->wpAny (model X.prog X.w) X.A (f v u) Q X.xe s2) :
  wpAny (model X.prog X.w) X.A (eval a X.env) (λv s₁=>wpAny (model X.prog X.w) X.A (eval b X.env) (λu s₂=>wpAny (model X.prog X.w) X.A (f v u) Q X.xe s₂) X.xe s₁) X.xe s:=by
 refine thn (ha ab s σ H Pr Z _ I E h) λv s1 q=>?_;obtain⟨x,H1,dx,Z1,I1,r1,E1,q1⟩:=EL.frz (af:=λdx Z1=>tb Z1 λy Z2=>toD y λdy=>R dx dy Z2) q;refine thn (hb ab s1 σ H1 _ Z1 _ I1 E1.tail.wide q1) λu s2 q=>?_;obtain⟨y,H2,dy,Z2,I2,r2,E2,q2⟩:=EL.frz (af:=λdy Z2=>R dx dy Z2) q;have E3:REnv X.K Pr H2 (some y::some x::σ) (.d dy::.d dx::Z2):=REnv.step (τ:=[some x]) (lam:=[.d dx]) (w:=[some y]) (μ:=[.d dy]) E1 rfl E2 rfl;obtain⟨_,e1,p1⟩:=E3.head_d;obtain⟨_,e2,p2⟩:=E3.tail.head_d;cases e1;cases e2;exact hf v u s2 x y H2 dx dy Z2 I2 r1 r2 E3 p2 p1 q2
abbrev Op2:=D->D->(L->Prop)->Prop
def OpD(X:Cx)(f:Value->Value->Sem Value)(op:Op2):Prop :=
 ∀(ab:List (Addr×Obj))(s:Shared)(σ:St)(H Pr:Hp)(Z:Ev)(x y:V)(v u:Value)(dx dy:D)(af:L->Prop),Inv X ab σ H s->RelV x v->RelV y u->REnv X.K Pr H σ Z->Rep X.K H x dx->Rep X.K H y dy->op dx dy af ->
  wpAny (model X.prog X.w) X.A (f v u) (λw s'=>∃z H' r,Inv X ab σ H' s'/\RelV z w/\REnv X.K Pr H' (some z::σ) (r::Z)/\af r) X.xe s
theorem OpD.of{f:Value->Value->Sem Value}{r:R2}{op:Op2}(h:OpR X f r)(q:∀σ H Pr Z x y dx dy af,REnv X.K Pr H σ Z->Rep X.K H x dx->Rep X.K H y dy->op dx dy af->r x y H λz H'=>∃r,REnv X.K Pr H' (some z::σ) (r::Z)/\af r):OpD X f op :=
 λab s σ H Pr Z x y v u dx dy af I rx ry E px py ho=>thn (h ab s σ H x y v u _ I rx ry (q σ H Pr Z x y dx dy af E px py ho)) λw s' ⟨z,H',I',rz,r,E',p⟩=>⟨z,H',r,I',rz,E',p⟩
theorem OpD.or{f:Value->Value->Sem Value}{o1 o2:Op2}(h1:OpD X f o1)(h2:OpD X f o2):OpD X f (λx y p=>o1 x y p∨o2 x y p) :=
 λab s σ H Pr Z x y v u dx dy af I rx ry E px py ho=>ho.elim (h1 ab s σ H Pr Z x y v u dx dy af I rx ry E px py) (h2 ab s σ H Pr Z x y v u dx dy af I rx ry E px py)
theorem OpD.imp{f:Value->Value->Sem Value}{o1 o2:Op2}(h1:OpD X f o1)(h:∀x y p,o2 x y p->o1 x y p):OpD X f o2 :=
 λab s σ H Pr Z x y v u dx dy af I rx ry E px py ho=>h1 ab s σ H Pr Z x y v u dx dy af I rx ry E px py (h _ _ _ ho)
def wBin(op:Op2)(ta tb:W L):W L:=λZ af=>ta Z λx Z1=>toD x λdx=>tb Z1 λy Z2=>toD y λdy=>op dx dy λr=>af r Z2
theorem pl_bin{op:Operator}{o:Op2}(ho:OpD X (binaryOp op) o)(ha:PL X a ta)(hb:PL X b tb):PL X (.BinOp a op b pos) (wBin o ta tb):=λab s σ H Pr Z af I E h =>
 wpAny_BinOp (two (R:=λdx dy Z2=>o dx dy λr=>af r Z2) ha hb I E h λv u s2 x y H2 dx dy Z2 I2 r1 r2 E2 p1 p2 q =>
  thn (ho ab s2 σ H2 Pr Z2 x y v u dx dy _ I2 r1 r2 E2.tail.tail p1 p2 q) λw s3 ⟨z,H3,r,I3,rz,E3,p⟩=>⟨z,H3,r,Z2,I3,rz,E3,p⟩)
theorem pl_cmp{op:CmpOp}{o:Op2}(ho:OpD X (compareOp op) o)(ha:PL X a ta)(hb:PL X b tb)(hm:behindInMarks op b=false):PL X (.Compare a [op] [b] pos) (wBin o ta tb):=λab s σ H Pr Z af I E h =>
 wpAny_Compare1 (two (R:=λdx dy Z2=>o dx dy λr=>af r Z2) ha hb I E h λv u s2 x y H2 dx dy Z2 I2 r1 r2 E2 p1 p2 q =>
  thn (ho ab s2 σ H2 Pr Z2 x y v u dx dy _ I2 r1 r2 E2.tail.tail p1 p2 q) λw s3 ⟨z,H3,r,I3,rz,E3,p⟩=>⟨z,H3,r,Z2,I3,rz,E3,p⟩) hm
def wC(x:D):W L:=λZ af=>af (.d x) Z
theorem pl_int {i j pos}:PL X (.Constant (.int i) j pos) (wC (.int i)):=PL.of pe_int λσ H Pr Z af E h=>⟨_,_,E.cons_d (.int i),h⟩
theorem pl_bl {b j pos}:PL X (.Constant (.bool b) j pos) (wC (.bl b)):=PL.of pe_bl λσ H Pr Z af E h=>⟨_,_,E.cons_d (.bl b),h⟩
theorem pl_non {j pos}:PL X (.Constant .none j pos) (wC .non):=PL.of pe_non λσ H Pr Z af E h=>⟨_,_,E.cons_d .non,h⟩
theorem pl_str {x j pos}:PL X (.Constant (.str x) j pos) (wC (.str x)):=PL.of pe_str λσ H Pr Z af E h=>⟨_,_,E.cons_d (.str x),h⟩
def varW(o:Option L)(i:Nat)(Z:Ev)(af:L->Ev->Prop):Prop:=match o with
 |some (.d x)=>af (.d x) Z
 |some (.own _ xs)=>af (.d (.lst xs)) (Z.set i (.d (.lst xs)))
 |some (.bx a ls)=>toDB a ls λx=>af (.d x) (Z.set i (.d x))
 |_=>False
def wVar(i:Nat):W L:=λZ af=>varW Z[i]? i Z af
theorem varW_d(x:D)(i:Nat)(Z:Ev)(af:L->Ev->Prop):varW (some (.d x)) i Z af=af (.d x) Z:=(rfl)
theorem varW_own(a:Addr)(xs:List D)(i:Nat)(Z:Ev)(af:L->Ev->Prop):varW (some (.own a xs)) i Z af=af (.d (.lst xs)) (Z.set i (.d (.lst xs))):=(rfl)
theorem varW_bx(a:Option Addr)(ls:List L)(i:Nat)(Z:Ev)(af:L->Ev->Prop):varW (some (.bx a ls)) i Z af=toDB a ls λx=>af (.d x) (Z.set i (.d x)):=(rfl)
theorem REnv.slot{K:PySem.W.Frag}{Pr H:Hp}{σ:St}{Z:Ev}{i:Nat}{l:L}(E:REnv K Pr H σ Z)(h:Z[i]?=some l):∃s,σ[i]?=some s/\Slot1 K H s l:=Paired.get2 E.sl h
theorem pl_var(i:Nat){x:Str}{pos:Pos}(hN:X.N[i]?=some x:=by rfl)(hv:Vis X.env.scope x:=by first | exact Or.inl rfl | exact Or.inr (Or.inl rfl) | exact Or.inr (Or.inr rfl)) (hd:(x == ("__debug__" : Str))=false:=by decide)
  (hcd:(x == ("__classdict__" : Str))=false:=by decide):PL X (.Name x pos) (wVar i):=by
 intro ab s σ H Pr Z af I E h;unfold wVar varW at h
 cases q:Z[i]? with
 |none=>rw[q]at h;exact h.elim
 | some l =>
  rw[q]at h;obtain⟨sv,hs,sl⟩:=E.slot q
  cases l with
  |un=>exact h.elim
  |dic a kvs=>exact h.elim
  | d y =>
   obtain⟨v,rfl,r⟩:=sl;exact thn (pe_var hN hv hd hcd ab s σ H (λw H'=>w=v/\H'=H) I ⟨v,hs,rfl,rfl⟩) λu s1 ⟨w,H1,I1,r1,e1,e2⟩=>by subst e1 e2;exact⟨w,H1,_,Z,I1,r1,E.cons_d r,h⟩
  | own a xs =>
   obtain⟨rfl,vs,ha,r⟩:=sl;refine thn (pe_var hN hv hd hcd ab s σ H (λw H'=>w=.ref a/\H'=H) I ⟨.ref a,hs,rfl,rfl⟩) λu s1 ⟨w,H1,I1,r1,e1,e2⟩=>?_;subst e1 e2;obtain⟨o,I2⟩:=I1.freezeL ha;have E2:=(E.out q).freeze ha o;have hi:i<Z.length:=(ah.mp q).1;have E3:=E2.back (i:=i) (by simp[hi]) hs;rw[bR]at E3;obtain⟨_,e,p⟩:=E2.head_d;cases e;exact⟨_,_,_,_,I2,r1,E3.cons_d p,h⟩
  | bx a ls =>
   obtain⟨y,ey,h⟩:=toDB_is h
   have hv':∃b,sv=some (.ref b):=by
    cases a with
    |none=>simp only[Slot1]at sl;obtain⟨b,_,e,_⟩:=sl;exact⟨b,e⟩
    |some b=>simp only[Slot1]at sl;exact⟨b,sl.1⟩
   obtain⟨b,rfl⟩:=hv';refine thn (pe_var hN hv hd hcd ab s σ H (λw H'=>w=.ref b/\H'=H) I ⟨.ref b,hs,rfl,rfl⟩) λu s1 ⟨w,H1,I1,r1,e1,e2⟩=>?_;subst e1 e2;obtain⟨H2,I2,E2,_⟩:=frzL (.bx a ls) I1 (E.outL q hs) ey;have hi:i<Z.length:=(ah.mp q).1;have E3:=E2.back (i:=i) (by simp[hi]) hs;rw[bR]at E3;obtain⟨_,e,p⟩:=E2.head_d;cases e;exact⟨_,_,_,_,I2,r1,E3.cons_d p,h⟩
def movW(o:Option L)(i:Nat)(Z:Ev)(af:L->Ev->Prop):Prop:=match o with
 |some (.d x)=>af (.d x) Z
 |some (.own a xs)=>af (.own a xs) (Z.set i .un)
 |some (.bx a ls)=>af (.bx a ls) (Z.set i .un)
 |_=>False
def wMove(i:Nat):W L:=λZ af=>movW Z[i]? i Z af
theorem movW_d(x:D)(i:Nat)(Z:Ev)(af:L->Ev->Prop):movW (some (.d x)) i Z af=af (.d x) Z:=(rfl)
theorem movW_own(a:Addr)(xs:List D)(i:Nat)(Z:Ev)(af:L->Ev->Prop):movW (some (.own a xs)) i Z af=af (.own a xs) (Z.set i .un):=(rfl)
theorem movW_bx(a:Option Addr)(ls:List L)(i:Nat)(Z:Ev)(af:L->Ev->Prop):movW (some (.bx a ls)) i Z af=af (.bx a ls) (Z.set i .un):=(rfl)
theorem pl_move(i:Nat){x:Str}{pos:Pos}(hN:X.N[i]?=some x:=by rfl)(hv:Vis X.env.scope x:=by first | exact Or.inl rfl | exact Or.inr (Or.inl rfl) | exact Or.inr (Or.inr rfl)) (hd:(x == ("__debug__" : Str))=false:=by decide)
  (hcd:(x == ("__classdict__" : Str))=false:=by decide):PL X (.Name x pos) (wMove i):=by
 intro ab s σ H Pr Z af I E h;unfold wMove movW at h
 cases q:Z[i]? with
 |none=>rw[q]at h;exact h.elim
 | some l =>
  rw[q]at h;obtain⟨sv,hs,sl⟩:=E.slot q
  cases l with
  |un=>exact h.elim
  |dic a kvs=>exact h.elim
  | d y =>
   obtain⟨v,rfl,r⟩:=sl;exact thn (pe_var hN hv hd hcd ab s σ H (λw H'=>w=v/\H'=H) I ⟨v,hs,rfl,rfl⟩) λu s1 ⟨w,H1,I1,r1,e1,e2⟩=>by subst e1 e2;exact⟨w,H1,_,Z,I1,r1,E.cons_d r,h⟩
  | own a xs =>
   obtain⟨rfl,vs,ha,r⟩:=sl;refine thn (pe_var hN hv hd hcd ab s σ H (λw H'=>w=.ref a/\H'=H) I ⟨.ref a,hs,rfl,rfl⟩) λu s1 ⟨w,H1,I1,r1,e1,e2⟩=>?_;subst e1 e2;exact⟨_,_,_,_,I1,r1,E.out q,h⟩
  | bx a ls =>
   have hv':∃b,sv=some (.ref b):=by
    cases a with
    |none=>simp only[Slot1]at sl;obtain⟨b,_,e,_⟩:=sl;exact⟨b,e⟩
    |some b=>simp only[Slot1]at sl;exact⟨b,sl.1⟩
   obtain⟨b,rfl⟩:=hv';refine thn (pe_var hN hv hd hcd ab s σ H (λw H'=>w=.ref b/\H'=H) I ⟨.ref b,hs,rfl,rfl⟩) λu s1 ⟨w,H1,I1,r1,e1,e2⟩=>?_;subst e1 e2;exact⟨_,_,_,_,I1,r1,E.outL q hs,h⟩
theorem pl_glob{x:Str}{v:V}{u:Value}{y:D}{pos:Pos}(hg:Gl X x)(hm:X.mg x=some u)(r:RelV v u)(hy:∀ H,Rep X.K H v y) (hd:(x == ("__debug__" : Str))=false:=by decide):PL X (.Name x pos) (wC y) :=
 PL.of (pe_glob hg hm r hd) λσ H Pr Z af E h=>⟨_,_,E.cons_d (hy H),h⟩
def isBl:L->(Bool->Prop)->Prop
 |.d (.bl b),k=>k b
 |_,_=>False
def wTest(t:W L):W Bool:=λZ af=>t Z λr Z1=>isBl r λb=>af b Z1
theorem isBl_is{r:L}{k:Bool->Prop}(h:isBl r k):∃b,r=.d (.bl b)/\k b:=by
 cases r with
 | d x=>cases x with
  |bl b=>exact⟨b,rfl,h⟩
  |_=>exact h.elim
 |_=>exact h.elim
theorem pb_val{t:W L}(h:PL X e t)(he:∀whole,isTrue e X.env whole=(do let v <- whole;standAt e.pos;holding [v] (truthy v)):=by intro _;rfl):PB X e (wTest t):=by intro ab s σ H Pr Z af I E ht;rw[he];refine ak (thn (h ab s σ H Pr Z _ I E ht) λu s1 ⟨v,H1,r,Z1,I1,rv,E1,p⟩=>ak (wpAny_standAt (bV ?_)));obtain⟨b,rfl,p⟩:=isBl_is p;obtain⟨_,e1,p1⟩:=E1.head_d;cases e1;cases p1;cases rv;exact aN ⟨H1,Z1,I1,E1.tail,p⟩
end
section
variable{X:Cx}{e a b c:Expr}{rest:List Expr}{pos:Pos}{ta tb:W L}{tA tB:W Bool}
def PBw(X:Cx)(e:Expr)(t:W Bool):Prop :=
 ∀(whole:Sem Value)(ab:List (Addr×Obj))(s:Shared)(σ:St)(H Pr:Hp)(Z:Ev)(af:Bool->Ev->Prop),Inv X ab σ H s->REnv X.K Pr H σ Z->t Z af->wpAny (model X.prog X.w) X.A (isTrue e X.env whole) (EB X ab σ Pr af) X.xe s
theorem PBw.pb{t:W Bool}(h:PBw X e t):PB X e t:=h _
def wAnd(t u:W Bool):W Bool:=λZ af=>t Z λc Z1=>if c=true then u Z1 af else af false Z1
def wOr(t u:W Bool):W Bool:=λZ af=>t Z λc Z1=>if c=true then af true Z1 else u Z1 af
def wNot(t:W Bool):W Bool:=λZ af=>t Z λc Z1=>af (!c) Z1
theorem pbw_and1(ha:PB X a tA):PBw X (.BoolOp .And [a] pos) tA:=by
 intro wh ab s σ H Pr Z af I E h;refine isTrue_and (thn (ha ab s σ H Pr Z af I E h) λc s1 e=>?_)
 cases c with
 |true=>exact isTrue_and_nil e
 |false=>exact e
theorem pbw_or1(ha:PB X a tA):PBw X (.BoolOp .Or [a] pos) tA:=by
 intro wh ab s σ H Pr Z af I E h;refine isTrue_or (thn (ha ab s σ H Pr Z af I E h) λc s1 e=>?_)
 cases c with
 |false=>exact isTrue_or_nil e
 |true=>exact e
theorem pbw_and(ha:PB X a tA)(hb:PBw X (.BoolOp .And (b::rest) pos) tB):PBw X (.BoolOp .And (a::b::rest) pos) (wAnd tA tB):=by
 intro wh ab s σ H Pr Z af I E h;refine isTrue_and (thn (ha ab s σ H Pr Z _ I E h) λc s1 ⟨H1,Z1,I1,E1,q1⟩=>?_)
 cases c with
 |true=>exact hb wh ab s1 σ H1 Pr Z1 af I1 E1 q1
 |false=>exact⟨H1,Z1,I1,E1,q1⟩
theorem pbw_or(ha:PB X a tA)(hb:PBw X (.BoolOp .Or (b::rest) pos) tB):PBw X (.BoolOp .Or (a::b::rest) pos) (wOr tA tB):=by
 intro wh ab s σ H Pr Z af I E h;refine isTrue_or (thn (ha ab s σ H Pr Z _ I E h) λc s1 ⟨H1,Z1,I1,E1,q1⟩=>?_)
 cases c with
 |true=>exact⟨H1,Z1,I1,E1,q1⟩
 |false=>exact hb wh ab s1 σ H1 Pr Z1 af I1 E1 q1
theorem pb_not(ha:PB X a tA):PB X (.UnaryOp .Not a pos) (wNot tA):=by intro ab s σ H Pr Z af I E h;exact isTrue_not (ha ab s σ H Pr Z (λc Z1=>af (!c) Z1) I E h)
theorem pbc{op:CmpOp}{o:Op2}(ho:OpD X (compareOp op) o)(ha:PL X a ta)(hb:PL X b tb)(hm:behindInMarks op b=false):PB X (.Compare a [op] [b] pos) (wTest (wBin o ta tb)):=by intro ab s σ H Pr Z af I E h;refine wpAny_isTrue_Compare1 (two (R:=λdx dy Z2=>o dx dy λr=>isBl r λb=>af b Z2) ha hb I E h λv u s2 x y H2 dx dy Z2 I2 r1 r2 E2 p1 p2 q=>?_) hm;refine thn (ho ab s2 σ H2 Pr Z2 x y v u dx dy _ I2 r1 r2 E2.tail.tail p1 p2 q) λw s3 ⟨z,H3,r,I3,rz,E3,p⟩=>?_;obtain⟨b,rfl,p⟩:=isBl_is p;obtain⟨_,e1,p1⟩:=E3.head_d;cases e1;cases p1;cases rz;exact aN ⟨H3,Z2,I3,E3.tail,p⟩
def wAndV(ta tb:W L):W L:=λZ af=>ta Z λr Z1=>isBl r λc=>if c=true then tb Z1 af else af (.d (.bl false)) Z1
def wOrV(ta tb:W L):W L:=λZ af=>ta Z λr Z1=>isBl r λc=>if c=true then af (.d (.bl true)) Z1 else tb Z1 af
def wNotV(t:W Bool):W L:=λZ af=>t Z λc Z1=>af (.d (.bl (!c))) Z1
theorem pl_one {op} {t:W L} (h:PL X a t):PL X (.BoolOp op [a] pos) t:=λab s σ H Pr Z af I E hw=>BoolOp_one (h ab s σ H Pr Z af I E hw)
theorem EL.bl{ab:List (Addr×Obj)}{σ:St}{Pr:Hp}{af:Bool->Ev->Prop}{u:Value}{s':Shared}(h:EL X ab σ Pr (λr Z=>isBl r λb=>af b Z) u s') :
  ∃H' b Z',u=.bool b/\Inv X ab σ H' s'/\REnv X.K Pr H' σ Z'/\af b Z':=by
 obtain⟨v,H',r,Z',I,rv,E,p⟩:=h;obtain⟨b,rfl,p⟩:=isBl_is p;obtain⟨_,e1,p1⟩:=E.head_d;cases e1;cases p1;cases rv;exact⟨H',b,Z',rfl,I,E.tail,p⟩
theorem pl_and(ha:PL X a ta)(hb:PL X (.BoolOp .And (b::rest) pos) tb):PL X (.BoolOp .And (a::b::rest) pos) (wAndV ta tb):=by
 intro ab s σ H Pr Z af I E h;refine BoolOp_and (thn (ha ab s σ H Pr Z _ I E h) λv s1 q=>?_)
 obtain⟨H1,c,Z1,rfl,I1,E1,q1⟩:=EL.bl (af:=λc Z1=>if c=true then tb Z1 af else af (.d (.bl false)) Z1) q
 refine aN ?_
 cases c with
 |true=>exact hb ab s1 σ H1 Pr Z1 af I1 E1 q1
 |false=>exact⟨.bl false,H1,_,Z1,I1,rfl,E1.cons_d (.bl false),q1⟩
theorem pl_or(ha:PL X a ta)(hb:PL X (.BoolOp .Or (b::rest) pos) tb):PL X (.BoolOp .Or (a::b::rest) pos) (wOrV ta tb):=by
 intro ab s σ H Pr Z af I E h;refine BoolOp_or (thn (ha ab s σ H Pr Z _ I E h) λv s1 q=>?_)
 obtain⟨H1,c,Z1,rfl,I1,E1,q1⟩:=EL.bl (af:=λc Z1=>if c=true then af (.d (.bl true)) Z1 else tb Z1 af) q
 refine aN ?_
 cases c with
 |false=>exact hb ab s1 σ H1 Pr Z1 af I1 E1 q1
 |true=>exact⟨.bl true,H1,_,Z1,I1,rfl,E1.cons_d (.bl true),q1⟩
theorem pl_not(ha:PL X a ta):PL X (.UnaryOp .Not a pos) (wNotV (wTest ta)):=by intro ab s σ H Pr Z af I E h;refine UnaryOp_ (thn (ha ab s σ H Pr Z _ I E h) λv s1 q=>?_);obtain⟨H1,c,Z1,rfl,I1,E1,q1⟩:=EL.bl (af:=λc Z1=>af (.d (.bl (!c))) Z1) q;exact not_of (aN ⟨.bl (!c),H1,_,Z1,I1,rfl,E1.cons_d (.bl _),q1⟩)
def wIfE(t:W Bool)(ta tb:W L):W L:=λZ af=>t Z λc Z1=>if c=true then ta Z1 af else tb Z1 af
theorem pl_ifE(hc:PB X c tA)(ha:PL X a ta)(hb:PL X b tb):PL X (.IfExp c a b pos) (wIfE tA ta tb):=by
 intro ab s σ H Pr Z af I E h;refine wpAny_IfExp (thn (hc ab s σ H Pr Z _ I E h) λd s1 ⟨H1,Z1,I1,E1,q1⟩=>?_)
 cases d with
 |true=>exact ha ab s1 σ H1 Pr Z1 af I1 E1 q1
 |false=>exact hb ab s1 σ H1 Pr Z1 af I1 E1 q1
def wUn(op:D->(L->Prop)->Prop)(t:W L):W L:=λZ af=>t Z λx Z1=>toD x λdx=>op dx λr=>af r Z1
def opNeg:D->(L->Prop)->Prop
 |.int i,k=>k (.d (.int (-i)))
 |_,_=>False
theorem pl_neg(ha:PL X a ta):PL X (.UnaryOp .USub a pos) (wUn opNeg ta):=by
 intro ab s σ H Pr Z af I E h;refine UnaryOp_ (thn (ha ab s σ H Pr Z _ I E h) λv s1 q=>?_);obtain⟨x,H1,dx,Z1,I1,r1,E1,q1⟩:=EL.frz (af:=λdx Z1=>opNeg dx λr=>af r Z1) q;obtain⟨_,e1,p1⟩:=E1.head_d;cases e1
 cases p1 with
 | int i =>
  exact thn (un_neg ab s1 σ H1 _ v (λw H'=>w=.int (-i)/\H'=H1) I1 r1 ⟨i,rfl,rfl,rfl⟩) λu s2 ⟨w,H2,I2,r2,e1,e2⟩=>by subst e1 e2;exact⟨_,_,_,Z1,I2,r2,E1.tail.cons_d (.int _),q1⟩
 |_=>exact q1.elim
variable{st:Stmt}{sts:List Stmt}{t u:W Fl}
def wNext:W Fl:=λZ af=>af .nx Z
def wSeq(t u:W Fl):W Fl:=λZ af=>t Z λf Z1=>match f with
 |.nx=>u Z1 af
 |f=>af f Z1
theorem pms_nil:PMs X [] wNext:=λ_ _ σ H Pr Z af I E h=>wpAny_execs_nil ⟨σ,H,Z,I,E,h⟩
theorem pms_cons(h1:PM X st t)(h2:PMs X sts u):PMs X (st::sts) (wSeq t u):=by
 intro ab s σ H Pr Z af I E h;refine wpAny_execs_cons (thn (h1 ab s σ H Pr Z _ I E h) λf s1 q=>?_)
 cases f with
 | next =>
  obtain⟨σ',H',Z',I',E',q⟩:=q;exact h2 ab s1 σ' H' Pr Z' af I' E' q
 |ret v=>exact q
 |brk=>exact q
 |cont=>exact q
theorem pms_one(h1:PM X st t):PMs X [st] t:=by
 intro ab s σ H Pr Z af I E h;refine wpAny_execs_cons (thn (h1 ab s σ H Pr Z _ I E h) λf s1 q=>?_)
 cases f with
 |next=>exact wpAny_execs_nil q
 |ret v=>exact q
 |brk=>exact q
 |cont=>exact q
def wDrop(t:W L):W Fl:=λZ af=>t Z λ_ Z1=>af .nx Z1
theorem pm_expr{te:W L}(he:PL X e te)(hs:swapsWith e none pos.line X.env=pure false:=by rfl):PM X (.Expr e pos) (wDrop te):=by intro ab s σ H Pr Z af I E h;exact wpAny_Expr_any (thn (he ab s σ H Pr Z _ I E h) λv s1 ⟨x,H1,r,Z1,I1,r1,E1,q1⟩=>⟨σ,H1,Z1,I1,E1.tail,q1⟩) I.quiet hs
def wRet(t:W L):W Fl:=λZ af=>t Z λr Z1=>af (.rt r) Z1
theorem pm_ret{te:W L}(he:PL X e te):PM X (.Return (some e) pos) (wRet te):=by intro ab s σ H Pr Z af I E h;exact wpAny_Return_some (thn (he ab s σ H Pr Z _ I E h) λv s1 ⟨x,H1,r,Z1,I1,r1,E1,q1⟩=>⟨x,σ,H1,r,Z1,σ,I1,r1,E1,q1⟩)
def wIf(c:W Bool)(t u:W Fl):W Fl:=λZ af=>c Z λb Z1=>if b=true then t Z1 af else u Z1 af
theorem pm_if{sa sb:List Stmt}(hc:PB X c tA)(ha:PMs X sa t)(hb:PMs X sb u):PM X (.If c sa sb pos) (wIf tA t u):=by
 intro ab s σ H Pr Z af I E h;refine wpAny_If (thn (hc ab s σ H Pr Z _ I E h) λd s1 ⟨H1,Z1,I1,E1,q1⟩=>?_)
 cases d with
 |true=>exact ha ab s1 σ H1 Pr Z1 af I1 E1 q1
 |false=>exact hb ab s1 σ H1 Pr Z1 af I1 E1 q1
def wNever:W Fl:=λ_ _=>False
theorem pm_never:PM X st wNever:=λ_ _ _ _ _ _ _ _ _ h=>h.elim
theorem REnv.forget{K:PySem.W.Frag}{Pr H:Hp}{σ:St}{Z:Ev}(E:REnv K Pr H σ Z)(i:Nat)(v:Option V):REnv K Pr H (σ.set i v) (Z.set i .un):=by
 have hsub:(owns (Z.set i .un)).Sublist (owns Z):=by
  have:∀(Z:Ev)(i:Nat),(owns (Z.set i .un)).Sublist (owns Z):=by
   intro Z
   induction Z with
   |nil=>intro i;exact bQ _
   | cons l Z ih =>
    intro i
    cases i with
    | zero =>
     show(owns Z).Sublist (owns (l::Z));rw[owns_cons];exact bj _ _
    | succ i =>
     show(owns (l::Z.set i .un)).Sublist (owns (l::Z));rw[owns_cons,owns_cons];exact(bQ _).append (ih i)
  exact this Z i
 exact⟨E.sub,E.nd.sublist hsub,λa h=>E.off a (hsub.subset h),Paired.set2 True.intro i E.sl⟩
theorem REnv.store{K:PySem.W.Frag}{Pr H:Hp}{σ:St}{Z:Ev}{v:Option V}{l:L}(E:REnv K Pr H (v::σ) (l::Z)){i:Nat}(hi:i<σ.length):REnv K Pr H (σ.set i v) (Z.set i l):=by have E1:=E.forget (i+1) v;have E2:REnv K Pr H (v::σ.set i v) (l::Z.set i .un):=E1;have hl:=E.tail.len;have E3:=E2.back (i:=i) (by rw[a9 zZ]) (by rw[a9 hi]);rw[bR]at E3;exact E3
def wSet(i:Nat)(t:W L):W Fl:=λZ af=>t Z λr Z1=>af .nx (Z1.set i r)
theorem pm_set{i:Nat}{x:Str}{te:W L}{pos':Pos}(hN:X.N.Nodup)(hi:X.N[i]?=some x)(hx:Loc X.env.scope x)(he:PL X e te)(hs:swapsWith e (some (.Name x pos')) pos.line X.env=pure false:=by rfl)(hf:X.fn x=true∨X.env.scope.names.lookup x=some .local:=by first|exact .inl rfl|exact .inr rfl|assumption) :
  PM X (.Assign [.Name x pos'] e pos) (wSet i te):=by
 intro ab s σ H Pr Z af I E h;refine wpAny_Assign_Name (thn (he ab s σ H Pr Z _ I E h) λv s1 ⟨y,H1,r,Z1,I1,r1,E1,q1⟩=>?_) hs;exact store_ok I1 hN hi hx r1 (λs2 I2=>⟨_,H1,_,I2,E1.store (by rw[I1.len];exact(ah.mp hi).1),q1⟩) hf
end
theorem owns_perm{a b:Ev}(h:a.Perm b):(owns a).Perm (owns b):=by
 induction h with
 |nil=>exact .refl _
 |cons x _ ih=>rw[owns_cons,owns_cons];exact ih.append_left _
 | swap x y l =>
  rw[owns_cons,owns_cons,owns_cons,owns_cons,<- aV,<- aV];exact List.Perm.append_right _ aX
 |trans _ _ h1 h2=>exact h1.trans h2
theorem owns_sub{a b:Ev}(h:a.Sublist b):(owns a).Sublist (owns b):=by
 induction h with
 |slnil=>exact .refl _
 |cons x _ ih=>rw[owns_cons];exact ih.trans (bj _ _)
 |cons_cons x _ ih=>rw[owns_cons,owns_cons];exact(bQ _).append ih
def tL(K:PySem.W.Frag)(t:W L):TE:=λσ H Q=>∃Pr Z af,REnv K Pr H σ Z/\t Z af/\∀v H' r Z',REnv K Pr H' (some v::σ) (r::Z')->af r Z'->Q v H'
def tW(K:PySem.W.Frag)(t:W Fl):TS:=λD σ H=>∃Pr Z af,REnv K Pr H σ Z/\t Z af/\(∀σ' H' Z',REnv K Pr H' σ' Z'->af .nx Z'->D.nx σ' H')/\(∀σ' H' Z',REnv K Pr H' σ' Z'->af .bk Z'->D.bk σ' H')/\(∀σ' H' Z',REnv K Pr H' σ' Z'->af .ct Z'->D.ct σ' H') /\
 ∀v τ H' r Z',REnv K Pr H' (some v::τ) (r::Z')->af (.rt r) Z'->D.rt v H'
noncomputable def tWb(K:PySem.W.Frag)(t:W Bool):TT:=λσ H Q=>∃Pr Z af,REnv K Pr H σ Z/\t Z af/\∀b H' Z',REnv K Pr H' σ Z'->af b Z'->Q b H'
section
variable{X:Cx}{e a b:Expr}{es:List Expr}{pos:Pos}{st:Stmt}{sts:List Stmt}{t u:W Fl}
theorem PL.pe{t:W L}(h:PL X e t):PE X e (tL X.K t):=λab s σ H Q I ⟨Pr,Z,af,E,ht,q⟩ =>
 thn (h ab s σ H Pr Z af I E ht) λu s1 ⟨v,H1,r,Z1,I1,rv,E1,p⟩=>⟨v,H1,I1,rv,q v H1 r Z1 E1 p⟩
theorem PB.pt{t:W Bool}(h:PB X e t):PT X e (tWb X.K t):=λab s σ H Q I ⟨Pr,Z,af,E,ht,q⟩ =>
 thn (h ab s σ H Pr Z af I E ht) λb s1 ⟨H1,Z1,I1,E1,p⟩=>⟨H1,I1,q b H1 Z1 E1 p⟩
theorem PMs.pss(h:PMs X sts t):PSs X sts (tW X.K t):=λab s σ H D I ⟨Pr,Z,af,E,ht,q1,q2,q3,q4⟩ =>
 thn (h ab s σ H Pr Z af I E ht) λf s1 q=>by
  cases f with
  |next=>obtain⟨σ',H',Z',I',E',p⟩:=q;exact⟨σ',H',I',q1 σ' H' Z' E' p⟩
  |brk=>obtain⟨σ',H',Z',I',E',p⟩:=q;exact⟨σ',H',I',q2 σ' H' Z' E' p⟩
  |cont=>obtain⟨σ',H',Z',I',E',p⟩:=q;exact⟨σ',H',I',q3 σ' H' Z' E' p⟩
  |ret u=>obtain⟨v,σ',H',r,Z',τ,I',rv,E',p⟩:=q;exact⟨v,σ',H',I',rv,q4 v τ H' r Z' E' p⟩
noncomputable def endsOf(K:PySem.W.Frag)(Pr:Hp)(af:Fl->Ev->Prop):Ends where
 nx:=λσ' H'=>∃Z',REnv K Pr H' σ' Z'/\af .nx Z'
 rt:=λv H'=>∃τ r Z',REnv K Pr H' (some v::τ) (r::Z')/\af (.rt r) Z'
 bk:=λσ' H'=>∃Z',REnv K Pr H' σ' Z'/\af .bk Z'
 ct:=λσ' H'=>∃Z',REnv K Pr H' σ' Z'/\af .ct Z'
theorem PM.of{ts:TS}(h:PS X st ts)(q:∀σ H Pr Z af,σ.length=X.N.length->REnv X.K Pr H σ Z->t Z af->ts (endsOf X.K Pr af) σ H):PM X st t:=λab s σ H Pr Z af I E ht =>
 thn (h ab s σ H _ I (q σ H Pr Z af I.len E ht)) λf s1 q=>by
  cases f with
  |next=>obtain⟨σ',H',I',Z',E',p⟩:=q;exact⟨σ',H',Z',I',E',p⟩
  |brk=>obtain⟨σ',H',I',Z',E',p⟩:=q;exact⟨σ',H',Z',I',E',p⟩
  |cont=>obtain⟨σ',H',I',Z',E',p⟩:=q;exact⟨σ',H',Z',I',E',p⟩
  |ret u=>obtain⟨v,σ',H',I',rv,τ,r,Z',E',p⟩:=q;exact⟨v,σ',H',r,Z',τ,I',rv,E',p⟩
theorem REnv.narrow{K:PySem.W.Frag}{Pr H1 H:Hp}{σ1 σ:St}{Z1 Z:Ev}(E1:REnv K Pr H1 σ1 Z1)(E:REnv K (butOwn H1 Z1) H σ Z):REnv K Pr H σ Z:=by
 refine⟨λb o e=>E.sub b o ?_,E.nd,λa ha=>?_,E.sl⟩
 . unfold butOwn;rw[if_neg,E1.sub b o e];intro hm;have z:=E1.off b hm;rw[e]at z;cases z
 .
  have z:=E.off a ha;unfold butOwn at z;by_cases hm:a∈owns Z1
  . exact E1.off a hm
  .
   rw[if_neg hm]at z
   cases q:Pr a with
   |none=>rfl
   |some o=>rw[E1.sub a o q]at z;cases z
def aNil:W (List L):=λZ af=>af [] Z
def aVal(t:W L)(r:W (List L)):W (List L):=λZ af=>t Z λx Z1=>r Z1 λxs Z2=>af (x::xs) Z2
def aVar(i:Nat)(r:W (List L)):W (List L):=λZ af=>match Z[i]? with
 |some (.own _ _)=>r Z λxs Z2=>af (.un::xs) Z2
 |_=>False
theorem pal_nil:PAL X [] [] aNil:=λ_ ab s σ H Pr Z af I E h=>Calls.spliced_nil ⟨[],H,[],Z,I,.nil,rfl,rfl,E,λk i e=>by simp at e,h⟩
theorem pal_val{bs:List (Option Nat)}{r:W (List L)}{t:W L}(ha:PL X e t)(hr:PAL X es bs r)(hs:starEach (e::es) X.env=(false,eval e X.env)::starEach es X.env:=by rfl):PAL X (e::es) (none::bs) (aVal t r):=by
 intro pos ab s σ H Pr Z af I E h;rw[hs];show wpAny _ _ (spliced ((false,eval e X.env)::backTo pos (starEach es X.env))) _ _ s;refine Calls.spliced_cons (thn (ha ab s σ H Pr Z _ I E h) λu s1 ⟨x,H1,l,Z1,I1,r1,E1,q1⟩=>?_);refine thn (hr pos ab s1 σ H1 _ Z1 _ I1 E1.tail.wide q1) λus s2 ⟨vs,H2,ls,Z2,I2,r2,hl,hb,E2,hv,q2⟩=>?_;have E3:REnv X.K Pr H2 (vs.map some++(some x::σ)) (ls++(l::Z2)):=REnv.step (τ:=[some x]) (lam:=[l]) E1 rfl E2 (by simp[hl])
 have E4:REnv X.K Pr H2 (some x::(vs.map some++σ)) (l::(ls++Z2)):=by
  have pm:(owns (ls++(l::Z2))).Perm (owns (l::(ls++Z2))):=owns_perm List.perm_middle;have s1:=Paired.unapp (by simp[hl]) E3.sl;obtain⟨s1,s2⟩:=s1
  cases s2 with
  |cons q t=>exact⟨E3.sub,pm.nodup_iff.mp E3.nd,λa h=>E3.off a (pm.mem_iff.mpr h),.cons q (Paired.app s1 t)⟩
 refine⟨x::vs,H2,l::ls,Z2,I2,.cons r1 r2,by simp[hl],by simp[hb],E4,λk i e=>?_,q2⟩
 cases k with
 |zero=>simp at e
 |succ k=>simpa using hv k i (by simpa using e)
theorem pal_var(i:Nat){x:Str}{p:Pos}{bs:List (Option Nat)}{r:W (List L)}(hr:PAL X es bs r)(hN:X.N[i]?=some x:=by rfl)(hv:Vis X.env.scope x:=by first | exact Or.inl rfl | exact Or.inr (Or.inl rfl) | exact Or.inr (Or.inr rfl)) (hd:(x == ("__debug__" : Str))=false:=by decide)
  (hcd:(x == ("__classdict__" : Str))=false:=by decide) (hs:starEach (.Name x p::es) X.env=(false,eval (.Name x p) X.env)::starEach es X.env:=by rfl):PAL X (.Name x p::es) (some i::bs) (aVar i r):=by
 intro pos ab s σ H Pr Z af I E h;unfold aVar at h
 cases q:Z[i]? with
 |none=>rw[q]at h;exact h.elim
 | some l =>
  rw[q]at h
  cases l with
  |un=>exact h.elim
  |d y=>exact h.elim
  |bx _ _=>exact h.elim
  |dic _ _=>exact h.elim
  | own a xs =>
   obtain⟨sv,hsl,sl⟩:=E.slot q;obtain⟨rfl,_⟩:=sl;rw[hs];show wpAny _ _ (spliced ((false,eval (.Name x p) X.env)::backTo pos (starEach es X.env))) _ _ s;refine Calls.spliced_cons (thn (pe_var hN hv hd hcd ab s σ H (λw H'=>w=.ref a/\H'=H) I ⟨.ref a,hsl,rfl,rfl⟩) λu s1 ⟨w,H1,I1,r1,e1,e2⟩=>?_);subst e1 e2;refine thn (hr pos ab s1 σ H1 Pr Z _ I1 E h) λus s2 ⟨vs,H2,ls,Z2,I2,r2,hl,hb,E2,hv,q2⟩=>?_;refine⟨.ref a::vs,H2,.un::ls,Z2,I2,.cons r1 r2,by simp[hl],by simp[hb],E2.cons_un,λk j e=>?_,q2⟩
   cases k with
   |zero=>simp at e;subst e;exact⟨rfl,.ref a,rfl,hsl⟩
   |succ k=>simpa using hv k j (by simpa using e)
def toDs:List L->(List D->Prop)->Prop
 |[],k=>k []
 |.d x::r,k=>toDs r λxs=>k (x::xs)
 |_::_,_=>False
theorem toDs_is:∀{ls:List L}{k:List D->Prop},toDs ls k->∃xs,ls=xs.map .d/\k xs
 |[],_,h=>⟨[],rfl,h⟩
 | .d x::r,k,h=>by obtain⟨xs,e,q⟩:=toDs_is (ls:=r) h;exact⟨x::xs,by rw[e];rfl,q⟩
 |.un::_,_,h=>h.elim
 |.own _ _::_,_,h=>h.elim
theorem reps_of{K:PySem.W.Frag}{Pr H:Hp}{σ:St}{Z:Ev}:∀{vs:List V}{xs:List D},vs.length=xs.length->REnv K Pr H (vs.map some++σ) (xs.map .d++Z)->Reps K H vs xs
 |[],[],_,_=>.nil
 | v::vs,x::xs,hl,E=>by obtain⟨w,e,r⟩:=REnv.head_d (v:=some v) (x:=x) E;cases e;exact .cons r (reps_of (by simpa using hl) (REnv.tail (v:=some v) (l:=.d x) E))
 |[],_::_,hl,_=>by simp at hl
 |_::_,[],hl,_=>by simp at hl
def wTup(t:W (List L)):W L:=λZ af=>t Z λls Z1=>toDs ls λxs=>xs.length<=sizeLine/\af (.d (.tup xs)) Z1
def wLst(t:W (List L)):W L:=λZ af=>t Z λls Z1=>toDs ls λxs=>xs.length<=sizeLine/\∀a,af (.own a xs) Z1
theorem pl_tup {x1} {bs:List (Option Nat)} {t:W (List L)} (h:PAL X es bs t):PL X (.Tuple es x1 pos) (wTup t):=by
 intro ab s σ H Pr Z af I E hq;refine wpAny_Tuple_spliced (thn (h pos ab s σ H Pr Z _ I E hq) λus s1 ⟨vs,H1,ls,Z1,I1,r,hl,hb,E1,hv,q⟩=>?_);obtain⟨xs,rfl,z,q⟩:=toDs_is q;have ae:vs.length=xs.length:=by simpa using hl
 refine⟨by rw[<- r.length,ae];exact z,?_⟩;have hf:H1 s1.heap.objs.size=none:=I1.hok.fresh (ao _);refine⟨.ref s1.heap.objs.size,upd H1 s1.heap.objs.size (.tup vs),_,Z1,I1.laid (t':=s1.toks) (λb u e=>av _ e) (ao _) ?_,rfl,(E1.drop (by simp[ae])).cons_tup hf (reps_of ae E1),q⟩;exact⟨by rw[ae];exact z,us,r,⟨_,aS _ rfl,rfl,_,rfl⟩⟩
theorem pl_lst{bs:List (Option Nat)}{t:W (List L)}(h:PAL X es bs t):PL X (.List es pos) (wLst t):=by
 intro ab s σ H Pr Z af I E hq;refine wpAny_List_spliced (thn (h pos ab s σ H Pr Z _ I E hq) λus s1 ⟨vs,H1,ls,Z1,I1,r,hl,hb,E1,hv,q⟩=>?_);obtain⟨xs,rfl,z,q⟩:=toDs_is q;have ae:vs.length=xs.length:=by simpa using hl
 refine⟨by rw[<- r.length,ae];exact z,?_⟩;have hf:H1 s1.heap.objs.size=none:=I1.hok.fresh (ao _);refine⟨.ref s1.heap.objs.size,upd H1 s1.heap.objs.size (.lst vs),_,Z1,I1.laid (t':=s1.toks) (λb u e=>av _ e) (ao _) ?_,rfl,(E1.drop (by simp[ae])).cons_own hf (reps_of ae E1),q _⟩;exact⟨by rw[ae];exact z,us,0,r,aS _ rfl⟩
abbrev FS:=List L->(L->List L->Prop)->Prop
noncomputable def spF(K:PySem.W.Frag)(n:Nat)(fs:FS):Sp:=λvs H Q _=>vs.length=n/\∃Pr ls af,REnv K Pr H (vs.map some) ls/\fs ls af/\∀v H' r ls',REnv K Pr H' (some v::vs.map some) (r::ls')->af r ls'->Q v H'
theorem REnv.swap{K:PySem.W.Frag}{Pr H:Hp}{σ τ:St}{Z lam:Ev}(hl:τ.length=lam.length)(E:REnv K Pr H (τ++σ) (lam++Z)):REnv K Pr H (σ++τ) (Z++lam):=by have pm:(owns (lam++Z)).Perm (owns (Z++lam)):=owns_perm aX;obtain⟨s1,s2⟩:=Paired.unapp hl E.sl;exact⟨E.sub,pm.nodup_iff.mp E.nd,λa h=>E.off a (pm.mem_iff.mpr h),Paired.app s2 s1⟩
theorem callee{K:PySem.W.Frag}{Pr H H':Hp}{σ τ:St}{Z ls ls':Ev}{v:Option V}{r:L}(hl:τ.length=ls.length)(E:REnv K Pr H (τ++σ) (ls++Z))(E':REnv K (butOwn H ls) H' (v::τ) (r::ls')):REnv K Pr H' (v::(τ++σ)) (r::(ls'++Z)):=by
 have hρ:σ.length=Z.length:=(E.drop hl).len;have z:=REnv.step (τ:=σ) (σ:=τ) (lam:=Z) (Z:=ls) (w:=[v]) (μ:=[r]) (E.swap hl) hρ E' rfl;have hl':τ.length=ls'.length:=by have:=E'.len;simpa using this
 obtain⟨s1,s2⟩:=Paired.unapp (a:=[v]) (b:=[r]) rfl z.sl;obtain⟨s2,s3⟩:=Paired.unapp hρ s2;have pm:(owns ([r]++(Z++ls'))).Perm (owns (r::(ls'++Z))):=owns_perm (List.Perm.cons r (aX (l₁:=Z) (l₂:=ls')));exact⟨z.sub,pm.nodup_iff.mp z.nd,λa h=>z.off a (pm.mem_iff.mpr h),Paired.app s1 (Paired.app s3 s2)⟩
def wCall(fs:FS)(t:W (List L)):W L:=λZ af=>t Z λls Z1=>fs ls λr _=>af r Z1
def wCallB(fs:FS)(k i:Nat)(t:W (List L)):W L:=λZ af=>t Z λls Z1=>match Z1[i]? with
 |some (.own a xs)=>fs (ls.set k (.own a xs)) λr ls'=>∃ys,ls'[k]?=some (.own a ys)/\af r (Z1.set i (.own a ys))
 |_=>False
section
variable{CX:CXT}{k n:Nat}{f:Addr}{fd:FuncData}{ps:List Str}{fs:FS}{E:XK}{x:Str}{p:Pos}{bs:List (Option Nat)}{t:W (List L)}
theorem REnv.drop1{K:PySem.W.Frag}{Pr H:Hp}{σ τ:St}{Z lam:Ev}{v:Option V}{r:L}(hl:τ.length=lam.length)(E:REnv K Pr H (v::(τ++σ)) (r::(lam++Z))):REnv K Pr H (v::σ) (r::Z):=by obtain⟨s1,s2⟩:=Paired.unapp (a:=[v]) (b:=[r]) rfl E.sl;obtain⟨s2,s3⟩:=Paired.unapp hl s2;have sb:(owns (r::Z)).Sublist (owns (r::(lam++Z))):=owns_sub (List.Sublist.cons_cons r (bj _ _));exact⟨E.sub,E.nd.sublist sb,λa h=>E.off a (sb.subset h),Paired.app s1 s3⟩
theorem pl_call(F:FnOk X.prog X.w X.K X.mg X.base CX k f fd ps (spF X.K n fs))(hr:Room k X.A)(hg:Gl X x)(hm:X.mg x=some (.ref f))(hk:PySem.W.keepIn X.K (.ref f)=true)(hb:Binds X.K fd ps [])(hx:Passes CX X E)
  (ha:PAL X (e::es) bs t) (hn:bs.length=n) (hdb:(x == ("__debug__" : Str))=false:=by decide) (he:starEach (e::es) X.env=(false,eval e X.env)::starEach es X.env:=by rfl) (hpl:(backTo pos (starEach es X.env)).any (·.1)=false:=by rfl) :
  PL X (.Call (.Name x p) (e::es) [] pos) (wCall fs t):=by
 intro ab s σ H Pr Z af I E0 h;refine wpAny_Call_Name_kw (ld_glob I hg hm ?_ hdb);refine PySem.W.callWith_K (h₀:=X.base) I.ok.mod.kin hk (thn (ha pos ab s σ H Pr Z _ I E0 h) λus s1 ⟨vs,H1,ls,Z1,I1,r,hl,hbl,E1,hv,q⟩=>⟨I1.kIn,?_⟩) he hpl;have hl':(vs.map some).length=ls.length:=by simp[hl]
 refine thn (run_fn (Q:=λv H'=>∃r Z',REnv X.K Pr H' (some v::σ) (r::Z')/\af r Z') F hr hb .nil hx I1 r ?_) λu s2 ⟨v,H2,I2,rv,r,Z',E2,p⟩=>⟨v,H2,r,Z',I2,rv,E2,p⟩;rw[bG];refine⟨hbl.trans hn,butOwn H1 ls,ls,_,(E1.left hl').wide,q,λv H' r ls' E2 p=>⟨r,Z1,?_,p⟩⟩;have z:=callee hl' E1 E2;have hl2:(vs.map some).length=ls'.length:=by have:=E2.len;simpa using this
 exact z.drop1 hl2
theorem pl_callB(F:FnOk X.prog X.w X.K X.mg X.base CX k f fd ps (spF X.K n fs))(hr:Room k X.A)(hg:Gl X x)(hm:X.mg x=some (.ref f))(hk:PySem.W.keepIn X.K (.ref f)=true)(hb:Binds X.K fd ps [])(hx:Passes CX X E)
  (j i:Nat) (ha:PAL X (e::es) bs t) (hj:bs[j]?=some (some i)) (hn:bs.length=n) (hdb:(x == ("__debug__" : Str))=false:=by decide) (he:starEach (e::es) X.env=(false,eval e X.env)::starEach es X.env:=by rfl) (hpl:(backTo pos (starEach es X.env)).any (·.1)=false:=by rfl) :
  PL X (.Call (.Name x p) (e::es) [] pos) (wCallB fs j i t):=by
 intro ab s σ H Pr Z af I E0 h;refine wpAny_Call_Name_kw (ld_glob I hg hm ?_ hdb);refine PySem.W.callWith_K (h₀:=X.base) I.ok.mod.kin hk (thn (ha pos ab s σ H Pr Z _ I E0 h) λus s1 ⟨vs,H1,ls,Z1,I1,r,hl,hbl,E1,hv,q⟩=>⟨I1.kIn,?_⟩) he hpl;have hl':(vs.map some).length=ls.length:=by simp[hl]
 refine thn (run_fn (Q:=λv H'=>∃r Z',REnv X.K Pr H' (some v::σ) (r::Z')/\af r Z') F hr hb .nil hx I1 r ?_) λu s2 ⟨v,H2,I2,rv,r,Z',E2,p⟩=>⟨v,H2,r,Z',I2,rv,E2,p⟩;rw[bG];dsimp only at q
 cases qi:Z1[i]? with
 |none=>rw[qi]at q;exact q.elim
 | some l =>
  rw[qi]at q
  cases l with
  |un=>exact q.elim
  |d y=>exact q.elim
  |bx _ _=>exact q.elim
  |dic _ _=>exact q.elim
  | own a xs =>
   obtain⟨hun,w,hw,hσ⟩:=hv j i hj;obtain⟨sv,hs2,rfl,_⟩:=(E1.drop hl').slot qi;rw[hσ]at hs2;cases hs2;have hjl:j<ls.length:=(ah.mp hun).1;have hjv:j<vs.length:=by omega
   have hil:i<Z1.length:=(ah.mp qi).1;have E2:=E1.out (i:=ls.length+i) (a:=a) (xs:=xs) (by rw[aj zZ];simpa using qi);rw[List.set_append_right _ _ zZ,aQ]at E2;have E3:=E2.back (i:=j) (by rw[aE hjl];exact hun) (by rw[aE (by simp;omega)];simp[hw]);rw[List.set_append_left _ _ hjl]at E3;have hl3:(vs.map some).length=(ls.set j (.own a xs)).length:=by simp[hl]
   refine⟨hbl.trans hn,butOwn H1 (ls.set j (.own a xs)),_,_,(E3.left hl3).wide,q,λv H' r ls' E4 p=>?_⟩;obtain⟨ys,hys,p⟩:=p;refine⟨r,Z1.set i (.own a ys),?_,p⟩;have z:=callee hl3 E3 E4;have hl4:(vs.map some).length=ls'.length:=by have:=E4.len;simpa using this
   have hjl':j<ls'.length:=by simp at hl4;omega
   have z1:=z.out (i:=1+j) (a:=a) (xs:=ys) (by rw[Nat.add_comm];simp only[List.getElem?_cons_succ];rw[aE hjl'];exact hys);rw[Nat.add_comm 1 j,List.set_cons_succ,List.set_append_left _ _ hjl']at z1
   have z2:=z1.back (i:=(1+ls'.length)+i) (by
    rw[Nat.add_comm 1,Nat.add_right_comm,List.getElem?_cons_succ,aj zY]
    simp[hil]) (by
    rw[Nat.add_comm 1,Nat.add_right_comm,List.getElem?_cons_succ,aj (by simp at hl4 ⊢;omega)];simp at hl4 ⊢;rw[<- hl4,aQ]
    exact hσ)
   rw[Nat.add_comm 1,Nat.add_right_comm,List.set_cons_succ,List.set_append_right _ _ zY]at z2;simp only[List.length_set,aQ,bR]at z2;exact z2.drop1 (by simp at hl4 ⊢;exact hl4)
end
end
def Back(Z:Ev):List L->List L->Prop:=Paired λl l'=>match l with
 |.own a _=>(∃ys,l'=.own a ys/\L.own a ys∈Z)∨l'=.un
 |.bx _ _=>l'=.un
 |.dic _ _=>l'=.un
 |l=>l'=l
def okEnd(ls:List L)(af:L->List L->Prop):Fl->Ev->Prop:=λf Z=>match f with
 |.rt r=>∃ls',Back Z ls ls'/\af r ls'
 |.nx=>∃ls',Back Z ls ls'/\af (.d .non) ls'
 |_=>False
theorem Back.owns{Z:Ev}:∀{ls ls':List L},Back Z ls ls'->(owns ls').Sublist (owns ls)
 |_,_,.nil=>.refl _
 | l::ls,l'::ls',.cons h t=>by
  have ih:=Back.owns t;rw[owns_cons,owns_cons]
  cases l with
  | own a xs =>
   rcases h with⟨ys,rfl,_⟩|rfl
   . exact(bQ _).append ih
   . exact ih.trans (bj _ _)
  |un=>have e:l'=.un:=h;subst e;exact(bQ _).append ih
  |d x=>have e:l'=.d x:=h;subst e;exact(bQ _).append ih
  |bx k ms=>have e:l'=.un:=h;subst e;exact ih.trans (bj _ _)
  |dic k ms=>have e:l'=.un:=h;subst e;exact ih.trans (bj _ _)
theorem Back.sub{Z:Ev}:∀{ls ls':List L},Back Z ls ls'->∀a∈L2.owns ls',a∈L2.owns Z
 |_,_,.nil=>λa ha=>by simp[L2.owns]at ha
 | l::ls,l'::ls',.cons h t=>λa ha=>by
  have ih:=Back.sub t;rw[owns_cons]at ha;rcases aM.mp ha with z|z
  .
   cases l with
   | own b xs =>
    rcases h with⟨ys,rfl,hm⟩|rfl
    .
     have e:a=b:=by simpa[ownsL]using z
     subst e;exact own_mem hm
    . simp[ownsL]at z
   |un=>have e:l'=.un:=h;subst e;simp[ownsL]at z
   |d x=>have e:l'=.d x:=h;subst e;simp[ownsL]at z
   |bx k ms=>have e:l'=.un:=h;subst e;simp[ownsL]at z
   |dic k ms=>have e:l'=.un:=h;subst e;simp[ownsL]at z
  . exact ih a z
theorem back_env{K:PySem.W.Frag}{Pr H H':Hp}{σ τ:St}{ls ls' Z:Ev}{v:Option V}{r:L}(E:REnv K Pr H σ ls)(E':REnv K (butOwn H ls) H' (v::τ) (r::Z))(B:Back Z ls ls'):REnv K Pr H' (v::σ) (r::ls'):=by
 have E1:=E.narrow E';have p:Pres H H':=pres_of E E'.sub;have sub:=B.sub;have nd1:(owns ls').Nodup:=E.nd.sublist B.owns;refine⟨E1.sub,?_,λa ha=>?_,?_⟩
 . have nd:=E'.nd;rw[owns_cons]at nd ⊢;obtain⟨n1,n2,n3⟩:=aJ.mp nd;exact aJ.mpr ⟨n1,nd1,λa ha b hb=>n3 a ha b (sub b hb)⟩
 .
  rw[owns_cons]at ha;refine E1.off a ?_;rw[owns_cons];rcases aM.mp ha with z|z
  . exact au _ z
  . exact ar _ (sub a z)
 .
  have s1:=E'.sl
  cases s1 with
  | cons q t =>
   refine .cons q ?_;have sl:=E.sl;clear E E' E1 nd1 sub
   induction B generalizing σ with
   |nil=>cases sl;exact .nil
   | cons h u ih =>
    rename_i l l' _ _
    cases sl with
    | cons s0 s2 =>
     refine .cons ?_ (ih s2)
     cases l with
     | own a xs =>
      rcases h with⟨ys,rfl,hm⟩|rfl
      . obtain⟨e,_⟩:=s0;obtain⟨_,_,_,z⟩:=Paired.mem2 t hm;exact⟨e,z⟩
      . unfold Slot1;exact True.intro
     |un=>have e:l'=.un:=h;subst e;unfold Slot1;exact True.intro
     |bx k ms=>have e:l'=.un:=h;subst e;unfold Slot1;exact True.intro
     |dic k ms=>have e:l'=.un:=h;subst e;unfold Slot1;exact True.intro
     | d x =>
      have e:l'=.d x:=h;subst e;obtain⟨w,e,r⟩:=s0;exact⟨w,e,r.pres p⟩
section
variable{P:Program}{w:World}{K:PySem.W.Frag}{mg:Str->Option Value}{base:Heap}
theorem REnv.uns{K:PySem.W.Frag}{Pr H:Hp}{σ:St}{Z:Ev}(E:REnv K Pr H σ Z):∀n,REnv K Pr H (σ++List.replicate n none) (Z++List.replicate n .un):=λn=>by
 have e:owns (Z++List.replicate n .un)=owns Z:=by
  rw[owns_append]
  have:owns (List.replicate n L.un)=[]:=by
   induction n with
   |zero=>rfl
   |succ n ih=>rw[List.replicate_succ,owns_cons_un];exact ih
  rw[this,bG]
 refine⟨E.sub,by rw[e];exact E.nd,λa h=>E.off a (by rw[e]at h;exact h),Paired.app E.sl ?_⟩
 induction n with
 |zero=>exact .nil
 | succ n ih =>
  rw[List.replicate_succ,List.replicate_succ];refine .cons True.intro (ih ?_)
  have:owns (List.replicate n L.un)=[]:=by
   clear ih e
   induction n with
   |zero=>rfl
   |succ n ih=>rw[List.replicate_succ,owns_cons_un];exact ih
  rw[owns_append,this,bG]
theorem fn_ok{x qual:Str}{st:Stmt}{f:Addr}{fd:FuncData}{N ps:List Str}{k:Nat}{fs:FS}(F:Fun K x qual st f fd)(S:FnScope N ps (defScope st))(t:W Fl)
  (hbody:∀(cdv:Value)(A:Around)(outer:List Env)(s:Shared)(H:Hp)(E:XK),Room k (A.deeper (envOfC qual (defScope st) s.heap.objs.size f cdv))->PMs (cxOf CX0 P w K mg base N qual (defScope st) f cdv A outer s H E).nox (defBody st) t)
  (h:∀ls af,ls.length=ps.length->fs ls af->t (ls++List.replicate (N.length-ps.length) .un) (okEnd ls af)):FnOk P w K mg base CX0 (k+1) f fd ps (spF K ps.length fs):=by
 refine F.ok S (λvs H Q E q=>q.1) (λcdv A outer s H vs Q E hr q=>?_);obtain⟨hl,Pr,ls,af,E0,hf,q⟩:=q;refine⟨_,(hbody cdv A outer s H E hr).pss,butOwn H ls,ls++List.replicate (N.length-ps.length) .un,okEnd ls af,?_,h ls af (by rw[<- hl];have:=E0.len;simpa using this.symm) hf,λσ' H' Z' E' p=>?_,λ_ _ _ _ p=>p.elim,λ_ _ _ _ p=>p.elim,λv τ H' r Z' E' p=>?_⟩
 . unfold start;rw[hl];exact E0.wide.uns _
 . obtain⟨ls',B,p⟩:=p;exact q .non H' (.d .non) ls' (back_env E0 (E'.cons_d .non) B) p
 . obtain⟨ls',B,p⟩:=p;exact q v H' r ls' (back_env E0 E' B) p
end
theorem back0{Z:Ev}:Back Z [] []:=.nil
theorem back_d{Z:Ev}{x:D}{a b:List L}(t:Back Z a b):Back Z (.d x::a) (.d x::b):=.cons rfl t
theorem back_own{Z:Ev}{p:Addr}{xs ys:List D}{a b:List L}(h:L.own p ys∈Z)(t:Back Z a b):Back Z (.own p xs::a) (.own p ys::b):=.cons (.inl ⟨ys,rfl,h⟩) t
section
variable{X:Cx}{e a b c tg:Expr}{es:List Expr}{pos:Pos}{tA:W Bool}{t u:W Fl}
def wWhile(c:W Bool)(b:W Fl):W Fl:=λZ af=>∃J:Nat->Ev->Prop,(∃n,J n Z)/\∀n Z,J n Z->c Z λt Z1=>if t=true then b Z1 λf Z2=>(match f with
 |.nx=>∃m,m<n/\J m Z2
 |.ct=>∃m,m<n/\J m Z2
 |.bk=>af .nx Z2
 |.rt r=>af (.rt r) Z2)else af .nx Z1
theorem pm_while{body:List Stmt}(hp:PassesOwn (model X.prog X.w) X.A X.env X.xe)(hc:PB X c tA)(hb:PMs X body t):PM X (.While c body [] pos) (wWhile tA t):=by
 refine PM.of (ps_while hp hc.pt hb.pss) λσ H Pr Z af ae E h=>?_;obtain⟨J,⟨n0,j0⟩,turn⟩:=h;refine⟨λn σ H=>∃Z,REnv X.K Pr H σ Z/\J n Z,⟨n0,Z,E,j0⟩,λn σ1 H1 ⟨Z1,E1,j1⟩=>⟨Pr,Z1,_,E1,turn n Z1 j1,λb H2 Z2 E2 q=>?_⟩⟩
 cases b with
 |false=>exact⟨Z2,E2,q⟩
 | true =>
  refine⟨λσ' H'=>∃Z' m,REnv X.K Pr H' σ' Z'/\m<n/\J m Z',λσ' H' ⟨Z',m,E',hm,j⟩=>⟨m,hm,Z',E',j⟩,Pr,Z2,_,E2,q,λσ' H' Z' E' ⟨m,hm,j⟩=>⟨Z',m,E',hm,j⟩,λσ' H' Z' E' p=>⟨Z',E',p⟩,λσ' H' Z' E' ⟨m,hm,j⟩=>⟨Z',m,E',hm,j⟩,λv τ H' r Z' E' p=>⟨τ,r,Z',E',p⟩⟩
abbrev Tg:=D->Ev->(Ev->Prop)->Prop
def PT1(X:Cx)(tg:Expr)(g:Tg):Prop:=∃gg:TG,PG X tg gg/\∀v σ H Pr Z x k,σ.length=X.N.length->REnv X.K Pr H σ Z->Rep X.K H v x->g x Z k->gg v σ H λσ' H'=>H'=H/\σ'.length=X.N.length/\∃Z',REnv X.K Pr H σ' Z'/\k Z'
def tgName(i:Nat):Tg:=λx Z k=>k (Z.set i (.d x))
theorem tg_name{i:Nat}{x:Str}(hN:X.N.Nodup)(hi:X.N[i]?=some x)(hx:Loc X.env.scope x)(hf:X.fn x=true∨X.env.scope.names.lookup x=some .local:=by first|exact .inl rfl|exact .inr rfl|assumption):PT1 X (.Name x pos) (tgName i) :=
 ⟨_,pg_name hN hi hx hf,λv σ H Pr Z x k hl E r h=>⟨rfl,by simpa using hl,_,(E.cons_d r).store (by rw[hl];exact(ah.mp hi).1),h⟩⟩
def tgNames:List Nat->List D->Ev->(Ev->Prop)->Prop
 |[],[],Z,k=>k Z
 |i::is,x::xs,Z,k=>tgNames is xs (Z.set i (.d x)) k
 |_,_,_,_=>False
def PTs(X:Cx)(es:List Expr)(is:List Nat):Prop:=∃gg:TGs,PGs X es gg/\es.length=is.length/\∀vs σ H Pr Z xs k,σ.length=X.N.length->REnv X.K Pr H σ Z->Reps X.K H vs xs->tgNames is xs Z k->gg vs σ H λσ' H'=>H'=H/\σ'.length=X.N.length/\∃Z',REnv X.K Pr H σ' Z'/\k Z'
theorem tgs_nil:PTs X [] []:=⟨_,pgs_nil,rfl,λvs σ H Pr Z xs k hl E r h=>by
 cases r with
 |nil=>exact⟨rfl,rfl,hl,Z,E,h⟩
 |cons _ _=>exact h.elim⟩
theorem tgs_cons{i:Nat}{is:List Nat}{x:Str}(hN:X.N.Nodup)(hi:X.N[i]?=some x)(hx:Loc X.env.scope x)(hr:PTs X es is)(hf:X.fn x=true∨X.env.scope.names.lookup x=some .local:=by first|exact .inl rfl|exact .inr rfl|assumption)
  (hs:(assignEach (.Name x pos::es) X.env).map (·.2)=assign (.Name x pos) X.env::(assignEach es X.env).map (·.2):=by rfl):PTs X (.Name x pos::es) (i::is):=by
 obtain⟨gg,hg,ae,q⟩:=hr;refine⟨_,pgs_cons (pg_name hN hi hx hf) hg hs,by simp[ae],λvs σ H Pr Z xs k hl E r h=>?_⟩
 cases r with
 |nil=>exact h.elim
 | cons r0 t =>
  refine⟨_,_,rfl,?_⟩;exact q _ _ H Pr _ _ k (by simpa using hl) ((E.cons_d r0).store (by rw[hl];exact(ah.mp hi).1)) t h
def tgTup(is:List Nat):Tg:=λx Z k=>match x with
 |.tup xs=>tgNames is xs Z k
 |_=>False
theorem tgNames_len:∀{is:List Nat}{xs:List D}{Z:Ev}{k:Ev->Prop},tgNames is xs Z k->xs.length=is.length
 |[],[],_,_,_=>rfl
 |_::is,_::xs,_,_,h=>by simp[tgNames_len (is:=is) (xs:=xs) h]
 |[],_::_,_,_,h=>h.elim
 |_::_,[],_,_,h=>h.elim
theorem tg_tup{is:List Nat}{k:Nat}(hc:X.calm=true)(h:PTs X es is)(hn:(assignEach es X.env).length=is.length:=by rfl)(hst:(assignEach es X.env).findIdx? (·.1)=none:=by rfl):PT1 X (.Tuple es k pos) (tgTup is):=by
 obtain⟨gg,hg,ae,q⟩:=h;refine⟨_,pg_tup hc hg hn hst,λv σ H Pr Z x k hl E r h=>?_⟩
 cases r with
 |tup hs rs=>exact⟨_,_,rfl,hs,by rw[rs.length];exact tgNames_len h,q _ σ H Pr Z _ k hl E rs h⟩
 |_=>exact h.elim
def wForL(g:Tg)(b:W Fl):List D->W Fl
 |[]=>λZ af=>af .nx Z
 | x::xs=>λZ af=>g x Z λZ1=>b Z1 λf Z2=>match f with
  |.nx=>wForL g b xs Z2 af
  |.ct=>wForL g b xs Z2 af
  |.bk=>af .nx Z2
  |.rt r=>af (.rt r) Z2
def itemsOf:D->(List D->Prop)->Prop
 |.lst xs,k=>k xs
 |.tup xs,k=>k xs
 |_,_=>False
def Grown(H H':Hp):Prop:=H'=H∨∃p o,H p=none/\H'=upd H p o
theorem REnv.grown{K:PySem.W.Frag}{Pr H H':Hp}{σ:St}{Z:Ev}(E:REnv K Pr H σ Z)(g:Grown H H'):REnv K Pr H' σ Z:=by
 rcases g with rfl|⟨p,o,h,rfl⟩
 . exact E
 . exact E.new h
def Gives(K:PySem.W.Frag)(H:Hp)(J:It)(xs:List D):Prop:=∀H',Pres H H' ->
 (∀i x,xs[i]?=some x->J.go i H'/\∀v H2,J.yld i H' v H2->Grown H' H2/\Rep K H2 v x)/\J.stop xs.length H'
def EI(X:Cx)(ab:List (Addr×Obj))(σ:St)(tg:Expr)(Pr:Hp)(af:List D->Ev->Prop)(itv:Value)(s2:Shared):Prop :=
 ∃(it:Addr)(fp:List Addr)(tn:Nat->Heap->Prop)(J:It)(H':Hp)(xs:List D)(Z':Ev),itv=.ref it/\Inv X ab σ H' s2/\Turn X.prog X.w X.K tg J fp it tn/\tn 0 s2.heap/\(∀b∈fp,FpOk X ab H' b)/\REnv X.K Pr H' σ Z'/\Gives X.K H' J xs/\af xs Z'
def PIL(X:Cx)(tg iter:Expr)(w:W (List D)):Prop :=
 ∀(ab:List (Addr×Obj))(s:Shared)(σ:St)(H Pr:Hp)(Z:Ev)(af:List D->Ev->Prop),Inv X ab σ H s->REnv X.K Pr H σ Z->w Z af ->
  wpAny (model X.prog X.w) X.A (eval iter X.env) (λv s1=>wpAny (model X.prog X.w) X.A (pyIter v) (EI X ab σ tg Pr af) X.xe s1) X.xe s
def wSrc(t:W L):W (List D):=λZ af=>t Z λr Z1=>toD r λx=>itemsOf x λxs=>af xs Z1
theorem gives_list{K:PySem.W.Frag}{H:Hp}{a:Addr}{vs:List V}{xs:List D}(h:SqZ K H a vs)(r:Reps K H vs xs):Gives K H (Itl K a) xs:=λH' p=>by have h':=(h.pres p).l;refine⟨λi x e=>?_,⟨vs,h',by rw[r.length];exact ao _⟩⟩;obtain⟨v,ev,rv⟩:=r.get e;refine⟨⟨vs,v,h',ev⟩,λw H2 ⟨e1,e2⟩=>?_⟩;have e3:=e2 vs h';rw[ev]at e3;cases e3;subst e1;exact⟨.inl rfl,rv.pres p⟩
theorem gives_tup{K:PySem.W.Frag}{H:Hp}{a:Addr}{vs:List V}{xs:List D}(h:SqT K H a vs)(r:Reps K H vs xs):Gives K H (Itt K a) xs:=λH' p=>by have h':=h.pres p;refine⟨λi x e=>?_,⟨vs,h',by rw[r.length];exact ao _⟩⟩;obtain⟨v,ev,rv⟩:=r.get e;refine⟨⟨vs,v,h',ev⟩,λw H2 ⟨e1,e2⟩=>?_⟩;have e3:=e2 vs h';rw[ev]at e3;cases e3;subst e1;exact⟨.inl rfl,rv.pres p⟩
theorem pil_seq{t:W L}(h:PL X e t):PIL X tg e (wSrc t):=by
 intro ab s σ H Pr Z af I E ht;refine thn (h ab s σ H Pr Z _ I E ht) λu s1 q=>?_;obtain⟨v,H1,x,Z1,I1,r1,E1,q2⟩:=EL.frz (af:=λx Z1=>itemsOf x λxs=>af xs Z1) q;obtain⟨_,e1,p⟩:=E1.head_d;cases e1
 cases p with
 | lst hz rs =>
  cases r1;obtain⟨its,rv,pl,hz'⟩:=I1.list hz.l;refine wpAny_pyIter_list pl.isList ?_;refine⟨s1.heap.objs.size,[s1.heap.objs.size],_,_,H1,_,Z1,rfl,I1.kept (t':=s1.toks) λb o e=>av _ e,turn_list _ _,⟨_,aS _ rfl,rfl,rfl⟩,λb hb=>?_,E1.tail,gives_list hz rs,q2⟩;have e:b=s1.heap.objs.size:=by simpa using hb
  subst e;exact I1.fpOk (ao _) (I1.hok.fresh (ao _))
 | tup hz rs =>
  cases r1;obtain⟨its,rv,pl,hz'⟩:=I1.tuple hz;refine wpAny_pyIter_tuple (show s1.heap.IsTuple _ its.toArray from pl) ?_;refine⟨s1.heap.objs.size,[s1.heap.objs.size],_,_,H1,_,Z1,rfl,I1.kept (t':=s1.toks) λb o e=>av _ e,turn_tuple _ _,⟨_,aS _ rfl,rfl,rfl⟩,λb hb=>?_,E1.tail,gives_tup hz rs,q2⟩;have e:b=s1.heap.objs.size:=by simpa using hb
  subst e;exact I1.fpOk (ao _) (I1.hok.fresh (ao _))
 |_=>exact q2.elim
noncomputable def rngD(lo:Int)(n:Nat):List D:=(List.range n).map λ(i:Nat)=>.int (lo+(i:Int))
theorem gives_rng{K:PySem.W.Frag}{H:Hp}(lo:Int)(n:Nat):Gives K H (Itr lo n) (rngD lo n):=λH' p=>by
 refine⟨λi x e=>?_,?_⟩
 .
  have hi:i<n:=by have:=(ah.mp e).1;simpa[rngD]using this
  refine⟨hi,λv H2 ⟨e1,e2⟩=>?_⟩;subst e1 e2;have:x=.int (lo+(i:Int)):=by unfold rngD at e;rw[bo,List.getElem?_range hi]at e;simpa using e.symm
  subst this;exact⟨.inl rfl,.int _⟩
 . show n<=(rngD lo n).length;simp[rngD]
def toInt:L->(Int->Prop)->Prop
 |.d (.int i),k=>k i
 |_,_=>False
theorem toInt_is{r:L}{k:Int->Prop}(h:toInt r k):∃i,r=.d (.int i)/\k i:=by
 cases r with
 | d x=>cases x with
  |int i=>exact⟨i,rfl,h⟩
  |_=>exact h.elim
 |_=>exact h.elim
def smallI(j:Int):Prop:=-(2^62)<=j/\j<2^62
def wRng1(t:W L):W (List D):=λZ af=>t Z λr Z1=>toInt r λj=>smallI j/\af (rngD 0 j.toNat) Z1
theorem pil_rng1{t:W L}{p pos:Pos} (hg:Gl X "range") (hm:X.mg "range"=none) (ha:PL X a t) (hs:starEach [a] X.env=[(false,eval a X.env)]:=by rfl):PIL X tg (.Call (.Name "range" p) [a] [] pos) (wRng1 t):=by
 intro ab s σ H Pr Z af I E h;refine thn (pi_range1 (tg:=tg) hg hm (pa_cons ha.pe pa_nil hs) hs ab s σ H (λJ H1=>∃Z1 n,J=Itr 0 n/\REnv X.K Pr H1 σ Z1/\af (rngD 0 n) Z1) I ?_) λv s1 q=>thn q λitv s2 ⟨it,fp,tn,J,H',e,I',T,t0,hf,Z1,n,eJ,E1,q⟩=>?_
 . refine⟨Pr,Z,_,E,h,λv H' r Z' E' p=>?_⟩;obtain⟨j,rfl,hj,p⟩:=toInt_is p;obtain⟨_,e1,p1⟩:=E'.head_d;cases e1;cases p1;exact⟨j,rfl,hj.1,hj.2,Z',_,rfl,E'.tail,p⟩
 . subst eJ;exact⟨it,fp,tn,_,H',_,Z1,e,I',T,t0,hf,E1,gives_rng 0 n,q⟩
def wFor(s:W (List D))(g:Tg)(b:W Fl):W Fl:=λZ af=>s Z λxs Z1=>wForL g b xs Z1 af
theorem pm_for{iter:Expr}{body:List Stmt}{w:W (List D)}{g:Tg}(hp:PassesOwn (model X.prog X.w) X.A X.env X.xe)(hc:X.calm=true)(hi:PIL X tg iter w)(hg:PT1 X tg g)(hb:PMs X body t)
  (hs:∀x,foldedSetIterable iter X.env x=pure x:=by intro _;rfl):PM X (.For tg iter body [] pos) (wFor w g t):=by
 intro ab s σ H Pr Z af I E h;obtain⟨gg,hg,hgg⟩:=hg;refine wpAny_For (thn (hi ab s σ H Pr Z _ I E h) λv s1 h1=>thn h1 λitv s2 h2=>?_) hs;obtain⟨it,fp,tn,J,H2,xs,Z2,e,I2,T,st2,f2,E2,G,w0⟩:=h2;subst e;have stat:∀{H':Hp},(∀b∈fp,H' b=none)->∀b∈fp,FpOk X ab H' b:=λhn b hb=>⟨hn b hb,(f2 b hb).2⟩;refine codeAny_forLoop_any (λn s'=>∃i σ' H' Z',n+i=xs.length/\Inv X ab σ' H' s'/\tn i s'.heap/\(∀b∈fp,H' b=none)/\REnv X.K (butOwn H2 Z2) H' σ' Z'/\wForL g t (xs.drop i) Z' af) ?_ xs.length ⟨0,σ,H2,Z2,zZ,I2,st2,λb hb=>(f2 b hb).1,E2.wide,by simpa using w0⟩;rintro n s3 ⟨i,σ3,H3,Z3,hn,I3,st3,fr3,E3,w3⟩;obtain⟨go,stop⟩:=G H3 (pres_of E2 E3.sub);by_cases hlt:i<xs.length
 .
  obtain⟨hgo,hy⟩:=go i xs[i] (aA hlt);rw[bB hlt]at w3;refine bO hp (thn (T.item X rfl rfl rfl hc i ab s3 σ3 H3 X.xe I3 (stat fr3) st3 hgo) λr s4 ⟨u,hr,h4⟩=>?_);subst hr;refine bO hp (thn h4 λ_ s5 ⟨x,H5,I5,r5,y5,st5,fr5⟩=>?_);obtain⟨gr,rx⟩:=hy x H5 y5;have I5':=I5.pinned (stat fr5) (T.obj _ _ st5);have E5:=E3.grown gr;refine bO hp (thn (hg _ s5 σ3 H5 x u _ I5' r5 (hgg x σ3 H5 _ Z3 xs[i] _ I5.len E5 rx w3)) λ_ s6 ⟨σ6,H6,I6,e6,hl6,Z6,E6,q6⟩=>?_);subst e6;refine bO hp (thn (hb _ s6 σ6 _ _ Z6 _ I6 E6 q6) λf s7 q7=>?_)
  have again:∀{σ7:St}{H7:Hp}{Z7:Ev},Inv X (ab++pinsAt fp s5.heap) σ7 H7 s7->REnv X.K (butOwn H2 Z2) H7 σ7 Z7->wForL g t (xs.drop (i+1)) Z7 af ->
    ∃m,m<n/\∃i σ' H' Z',m+i=xs.length/\Inv X ab σ' H' s7/\tn i s7.heap/\(∀b∈fp,H' b=none)/\REnv X.K (butOwn H2 Z2) H' σ' Z'/\wForL g t (xs.drop i) Z' af:=λ{σ7 H7 Z7} I7 E7 n7=>by
   refine⟨n-1,zZ,i+1,σ7,H7,Z7,zZ,I7.unpinned,T.keep _ _ _ st5 λb hb o e=>(I7.pin (b,o) (ar _ (ar _ (mem_pinsAt hb e)))).1,λb hb=>?_,E7,n7⟩;obtain⟨o,e,d⟩:=T.obj _ _ st5 b hb;exact(I7.pin (b,o) (ar _ (ar _ (mem_pinsAt hb e)))).2.1
  cases f with
  |next=>obtain⟨σ7,H7,Z7,I7,E7,n7⟩:=q7;exact again I7 E7 n7
  |cont=>obtain⟨σ7,H7,Z7,I7,E7,n7⟩:=q7;exact again I7 E7 n7
  |brk=>obtain⟨σ7,H7,Z7,I7,E7,q7⟩:=q7;exact⟨σ7,H7,Z7,I7.unpinned,E2.narrow E7,q7⟩
  |ret v=>obtain⟨x7,σ7,H7,r,Z7,τ,I7,r7,E7,q7⟩:=q7;exact⟨x7,σ7,H7,r,Z7,τ,I7.unpinned,r7,E2.narrow E7,q7⟩
 .
  have e:i=xs.length:=by omega
  subst e;refine bO hp (thn (T.done X rfl rfl rfl hc xs.length ab s3 σ3 H3 X.xe I3 (stat fr3) st3 stop) λr s4 ⟨hr,I4⟩=>?_);subst hr;rw[List.drop_length]at w3;exact wpAny_execs_nil ⟨σ3,H3,Z3,I4,E2.narrow E3,w3⟩
end
section
variable{X:Cx}{e a b c:Expr}{pos:Pos}{ta tb:W L}
def bitsOk(i:Int):Prop:=i.natAbs<2^1000000
def opAdd:Op2:=λx y k=>match x,y with
 |.int i,.int j=>k (.d (.int (i+j)))
 |.str i,.str j=>i.length+j.length<=sizeLine/\k (.d (.str (i++j)))
 |.lst xs,.lst ys=>xs.length+ys.length<=sizeLine/\∀a,k (.own a (xs++ys))
 |_,_=>False
def opSub:Op2:=λx y k=>match x,y with
 |.int i,.int j=>k (.d (.int (i-j)))
 |_,_=>False
def opDiv:Op2:=λx y k=>match x,y with
 |.int i,.int j=>j≠0/\j.natAbs<2^9000/\k (.d (.int (i.fdiv j)))
 |_,_=>False
def opMod:Op2:=λx y k=>match x,y with
 |.int i,.int j=>j≠0/\k (.d (.int (i.fmod j)))
 |_,_=>False
def opPow:Op2:=λx y k=>match x,y with
 |.int i,.int j=>0<=j/\j<=1000000/\i.natAbs<2^64/\k (.d (.int (i^j.toNat)))
 |_,_=>False
def opLt:Op2:=λx y k=>match x,y with
 |.int i,.int j=>k (.d (.bl (decide (i<j))))
 |_,_=>False
def opLe:Op2:=λx y k=>match x,y with
 |.int i,.int j=>k (.d (.bl (decide (i<=j))))
 |_,_=>False
def opGt:Op2:=λx y k=>match x,y with
 |.int i,.int j=>k (.d (.bl (decide (j<i))))
 |_,_=>False
def opGe:Op2:=λx y k=>match x,y with
 |.int i,.int j=>k (.d (.bl (decide (j<=i))))
 |_,_=>False
theorem bitsOk_ok{i j:Int}(h1:bitsOk i)(h2:bitsOk j):IntMulOk i j:=IntMulOk.of_le (PySem.intBits_le_iff.mpr h1) (PySem.intBits_le_iff.mpr h2) zd
theorem opr_mul:OpR X (binaryOp .Mult) (rI (λi j=>bitsOk i/\bitsOk j) λi j=>.int (i*j)):=opI λ_ _ _ _ _ _ _ hc q=>mul_int q (bitsOk_ok hc.1 hc.2)
theorem opr_div:OpR X (binaryOp .FloorDiv) (rI (λi j=>j≠0/\j.natAbs<2^9000) λi j=>.int (i.fdiv j)):=opI λi j _ _ _ _ _ hc q=>floordiv_int hc.1 q (.inl (PyProof.noPylong_of_log2 ((Nat.log2_lt (by have:=hc.1;omega)).mpr hc.2)))
theorem opr_cat:OpR X (binaryOp .Add) (λx y H Q=>∃l b xs zs,x=.ref l/\y=.ref b/\SqL X.K H l xs/\SqL X.K H b zs/\xs.length+zs.length<=sizeLine/\∀p,H p=none->Q (.ref p) (upd H p (.lst (xs++zs)))):=by
 intro ab s σ H x y v u Q I rx ry h;obtain⟨l,b,xs,zs,rfl,rfl,hH,hB,hz,q⟩:=h;cases rx;cases ry;obtain⟨its,r,⟨o,n,e,c,d,f⟩,z⟩:=I.list hH;obtain⟨its2,r2,⟨o2,n2,e2,c2,d2,f2⟩,z2⟩:=I.list hB;obtain⟨cl,dd,dt,sl⟩:=o;obtain⟨cl2,dd2,dt2,sl2⟩:=o2;simp only at c f c2 f2;subst c f c2 f2;have hl:=r.length;have hl2:=r2.length;refine concat_meets ⟨_,e,rfl⟩ ⟨_,e2,rfl⟩ noFill_list_add seq_list_add PySem.F.slot_list_add PySem.F.entry_list_add (PySem.F.args_list_add_2 _ _) (list_addW l b its.toArray its2.toArray n n2 dd dd2 sl sl2 (by rw[aB,aB];omega)) ⟨e,e2,?_⟩;have ea:its.toArray++its2.toArray=(its++its2).toArray:=by simp
 rw[ea];exact⟨.ref _,_,I.lnew (t':=s.toks) (r.append r2) (by rw[aC];omega),rfl,q _ I.fresh⟩
theorem opAdd_is{x y:D}{k:L->Prop}(h:opAdd x y k):(∃i j,x=.int i/\y=.int j/\k (.d (.int (i+j))))∨(∃i j,x=.str i/\y=.str j/\i.length+j.length<=sizeLine/\k (.d (.str (i++j))))∨∃xs ys,x=.lst xs/\y=.lst ys/\xs.length+ys.length<=sizeLine/\∀a,k (.own a (xs++ys)):=by
 unfold opAdd at h;split at h
 . exact .inl ⟨_,_,rfl,rfl,h⟩
 . exact .inr (.inl ⟨_,_,rfl,rfl,h⟩)
 . exact .inr (.inr ⟨_,_,rfl,rfl,h⟩)
 . exact h.elim
theorem od_addI:OpD X (binaryOp .Add) (λx y k=>∃i j,x=.int i/\y=.int j/\k (.d (.int (i+j)))):=OpD.of op_add λσ H Pr Z x y dx dy af E px py ⟨i,j,e1,e2,h⟩=>by subst e1 e2;cases px;cases py;exact⟨i,j,rfl,rfl,_,E.cons_d (.int _),h⟩
theorem od_addS:OpD X (binaryOp .Add) (λx y k=>∃i j,x=.str i/\y=.str j/\i.length+j.length<=sizeLine/\k (.d (.str (i++j)))):=OpD.of op_add_str λσ H Pr Z x y dx dy af E px py ⟨i,j,e1,e2,z,h⟩=>by subst e1 e2;cases px;cases py;exact⟨i,j,rfl,rfl,z,_,E.cons_d (.str _),h⟩
theorem od_addL:OpD X (binaryOp .Add) (λx y k=>∃xs ys,x=.lst xs/\y=.lst ys/\xs.length+ys.length<=sizeLine/\∀a,k (.own a (xs++ys))):=OpD.of opr_cat λσ H Pr Z x y dx dy af E px py ⟨xs,ys,e1,e2,z,h⟩=>by
 subst e1 e2
 cases px with
 | lst h1 r1 =>
  cases py with
  |lst h2 r2=>exact⟨_,_,_,_,rfl,rfl,h1.l,h2.l,by rw[r1.length,r2.length];exact z,λp hp=>⟨_,E.cons_own hp (r1.append r2),h p⟩⟩
theorem od_add:OpD X (binaryOp .Add) opAdd:=by
 intro ab s σ H Pr Z x y v u dx dy af I rx ry E px py ho;rcases opAdd_is ho with h|h|h
 . exact od_addI ab s σ H Pr Z x y v u dx dy af I rx ry E px py h
 . exact od_addS ab s σ H Pr Z x y v u dx dy af I rx ry E px py h
 . exact od_addL ab s σ H Pr Z x y v u dx dy af I rx ry E px py h
theorem od_int{f:Value->Value->Sem Value}{C:Int->Int->Prop}{g:Int->Int->V}{gd:Int->Int->D}(h:OpR X f (rI C g))(hg:∀K H i j,Rep K H (g i j) (gd i j)) :
  OpD X f (λx y k=>∃i j,x=.int i/\y=.int j/\C i j/\k (.d (gd i j))) :=
 OpD.of h λσ H Pr Z x y dx dy af E px py ⟨i,j,e1,e2,z,h⟩=>by subst e1 e2;cases px;cases py;exact⟨i,j,rfl,rfl,z,_,E.cons_d (hg _ _ _ _),h⟩
theorem od_int0{f:Value->Value->Sem Value}{g:Int->Int->V}{gd:Int->Int->D}(h:OpR X f (rI0 g))(hg:∀K H i j,Rep K H (g i j) (gd i j)) :
  OpD X f (λx y k=>∃i j,x=.int i/\y=.int j/\k (.d (gd i j))) :=
 OpD.of h λσ H Pr Z x y dx dy af E px py ⟨i,j,e1,e2,h⟩=>by subst e1 e2;cases px;cases py;exact⟨i,j,rfl,rfl,_,E.cons_d (hg _ _ _ _),h⟩
theorem od_sub:OpD X (binaryOp .Sub) opSub:=(od_int0 op_sub (gd:=λi j=>.int (i-j)) λ_ _ _ _=>.int _).imp λx y k h=>by
 unfold opSub at h;split at h
 . exact⟨_,_,rfl,rfl,h⟩
 . exact h.elim
theorem od_mul:OpD X (binaryOp .Mult) (λx y k=>∃i j,x=.int i/\y=.int j/\(bitsOk i/\bitsOk j)/\k (.d (.int (i*j)))):=od_int opr_mul (gd:=λi j=>.int (i*j)) λ_ _ _ _=>.int _
def opMulI:Op2:=λx y k=>match x,y with
 |.int i,.int j=>bitsOk i/\bitsOk j/\k (.d (.int (i*j)))
 |_,_=>False
theorem od_mulI:OpD X (binaryOp .Mult) opMulI:=od_mul.imp λx y k h=>by
 unfold opMulI at h;split at h
 . exact⟨_,_,rfl,rfl,⟨h.1,h.2.1⟩,h.2.2⟩
 . exact h.elim
theorem od_div:OpD X (binaryOp .FloorDiv) opDiv:=(od_int opr_div (gd:=λi j=>.int (i.fdiv j)) λ_ _ _ _=>.int _).imp λx y k h=>by
 unfold opDiv at h;split at h
 . exact⟨_,_,rfl,rfl,⟨h.1,h.2.1⟩,h.2.2⟩
 . exact h.elim
theorem od_mod:OpD X (binaryOp .Mod) opMod:=(od_int op_modN (gd:=λi j=>.int (i.fmod j)) λ_ _ _ _=>.int _).imp λx y k h=>by
 unfold opMod at h;split at h
 . exact⟨_,_,rfl,rfl,h.1,h.2⟩
 . exact h.elim
theorem od_pow:OpD X (binaryOp .Pow) opPow:=(od_int op_pow (gd:=λi j=>.int (i^j.toNat)) λ_ _ _ _=>.int _).imp λx y k h=>by
 unfold opPow at h;split at h
 . exact⟨_,_,rfl,rfl,⟨h.1,h.2.1,h.2.2.1⟩,h.2.2.2⟩
 . exact h.elim
theorem od_lt:OpD X (compareOp .Lt) opLt:=(od_int0 op_lt (gd:=λi j=>.bl (decide (i<j))) λ_ _ _ _=>.bl _).imp λx y k h=>by
 unfold opLt at h;split at h
 . exact⟨_,_,rfl,rfl,h⟩
 . exact h.elim
theorem od_le:OpD X (compareOp .LtE) opLe:=(od_int0 op_le (gd:=λi j=>.bl (decide (i<=j))) λ_ _ _ _=>.bl _).imp λx y k h=>by
 unfold opLe at h;split at h
 . exact⟨_,_,rfl,rfl,h⟩
 . exact h.elim
theorem od_gt:OpD X (compareOp .Gt) opGt:=(od_int0 op_gt (gd:=λi j=>.bl (decide (j<i))) λ_ _ _ _=>.bl _).imp λx y k h=>by
 unfold opGt at h;split at h
 . exact⟨_,_,rfl,rfl,h⟩
 . exact h.elim
theorem od_ge:OpD X (compareOp .GtE) opGe:=(od_int0 op_ge (gd:=λi j=>.bl (decide (j<=i))) λ_ _ _ _=>.bl _).imp λx y k h=>by
 unfold opGe at h;split at h
 . exact⟨_,_,rfl,rfl,h⟩
 . exact h.elim
mutual
noncomputable def toP:D->PyData
 |.non=>.none
 |.bl b=>.bool b
 |.int i=>.int i
 |.str x=>.str x
 |.tup xs=>.tuple (toPs xs)
 |.lst xs=>.list (toPs xs)
 |.dct _=>.dict []
 |.exc _ _ _=>.dict []
 |.fn _ _=>.dict []
 |.dk _ _=>.dict []
 |.gf _=>.dict []
noncomputable def toPs:List D->List PyData
 |[]=>[]
 |x::xs=>toP x::toPs xs
end
noncomputable def eqD(x y:D):Bool:=PyData.eqv (toP x) (toP y)
def shapeD(x:D):Prop:=SeqAt.shaped (toP x)=true
def opEq:Op2:=λx y k=>shapeD x/\shapeD y/\k (.d (.bl (eqD x y)))
def opNe:Op2:=λx y k=>shapeD x/\shapeD y/\k (.d (.bl (!eqD x y)))
mutual
theorem reads_of{ab:List (Addr×Obj)}{σ:St}{H:Hp}{s:Shared}(I:Inv X ab σ H s):∀(d:D)(x:V)(u:Value),RelV x u->Rep X.K H x d->(toP d).canLay0=true->∃as,Reads s.heap u (toP d) as
 |.non,_,_,rv,r,_=>by cases r;cases rv;exact⟨_,.none⟩
 |.bl b,_,_,rv,r,_=>by cases r;cases rv;exact⟨_,.bool b⟩
 |.int i,_,_,rv,r,_=>by cases r;obtain⟨t,rfl⟩:=rv;exact⟨_,.int i t⟩
 |.str z,_,_,rv,r,_=>by cases r;obtain⟨t,rfl⟩:=rv;exact⟨_,.str z t⟩
 | .tup xs,_,_,rv,r,hc=>by
  cases r with
  | tup h rs =>
   cases rv
   obtain⟨its,vs,⟨o,e,c,n,d⟩,_⟩:=I.tuple h
   obtain⟨as,ra⟩:=readsAll_of I xs _ _ vs rs hc
   exact⟨_,.tuple (xs:=toPs xs) e c d (by simpa using ra)⟩
 | .lst xs,_,_,rv,r,hc=>by
  cases r with
  | lst h rs =>
   cases rv
   obtain⟨its,vs,⟨o,n,e,c,_,d⟩,_⟩:=I.list h.l
   obtain⟨as,ra⟩:=readsAll_of I xs _ _ vs rs hc
   exact⟨_,.list (xs:=toPs xs) e c d (by simpa using ra)⟩
 |.dct _,_,_,_,_,hc=>nomatch hc
 |.exc _ _ _,_,_,_,_,hc=>nomatch hc
 |.fn _ _,_,_,_,_,hc=>nomatch hc
 |.dk _ _,_,_,_,_,hc=>nomatch hc
 |.gf _,_,_,_,_,hc=>nomatch hc
theorem readsAll_of{ab:List (Addr×Obj)}{σ:St}{H:Hp}{s:Shared}(I:Inv X ab σ H s):∀(ds:List D)(vs:List V)(us:List Value),Vals vs us->Reps X.K H vs ds->PyData.canLayAll0 (toPs ds)=true->∃as,ReadsAll s.heap us (toPs ds) as
 |[],_,_,rv,r,_=>by cases r;cases rv;exact⟨_,.nil⟩
 | d::ds,_,_,rv,r,hc=>by
  have hc':(toP d).canLay0=true/\PyData.canLayAll0 (toPs ds)=true:=by simpa[toPs,PyData.canLayAll0]using hc
  cases r with
  | cons r0 rs =>
   cases rv with
   | cons v0 vs =>
    obtain⟨as,ra⟩:=reads_of I d _ _ v0 r0 hc'.1
    obtain⟨bs,rb⟩:=readsAll_of I ds _ _ vs rs hc'.2
    exact⟨_,.cons ra rb⟩
end
theorem od_eq(hu:X.A.units+64<cLine):OpD X (compareOp .Eq) opEq:=by intro ab s σ H Pr Z x y v u dx dy af I rx ry E px py ⟨h1,h2,ho⟩;obtain⟨as,ra⟩:=reads_of I dx x v rx px (SeqAt.canLay_of_shaped h1);obtain⟨bs,rb⟩:=reads_of I dy y u ry py (SeqAt.canLay_of_shaped h2);exact eq_dataH ra rb h1 h2 hu ⟨.bl _,H,_,I,rfl,E.cons_d (.bl _),ho⟩
theorem od_ne(hu:X.A.units+64<cLine):OpD X (compareOp .NotEq) opNe:=by intro ab s σ H Pr Z x y v u dx dy af I rx ry E px py ⟨h1,h2,ho⟩;obtain⟨as,ra⟩:=reads_of I dx x v rx px (SeqAt.canLay_of_shaped h1);obtain⟨bs,rb⟩:=reads_of I dy y u ry py (SeqAt.canLay_of_shaped h2);exact ne_dataH ra rb h1 h2 hu ⟨.bl _,H,_,I,rfl,E.cons_d (.bl _),ho⟩
theorem od_isN:OpD X (compareOp .Is) (λx y k=>y=.non/\k (.d (.bl (match x with | .non=>true|_=>false)))):=OpD.of op_isN λσ H Pr Z x y dx dy af E px py ⟨e,h⟩=>by subst e;cases py;refine⟨rfl,_,E.cons_d (.bl _),?_⟩;cases px<;>exact h
def opIx:Op2:=λx y k=>match x,y with
 |.lst xs,.int i=>∃v,atI xs i=some v/\k (.d v)
 |.tup xs,.int i=>∃v,atI xs i=some v/\k (.d v)
 |.str z,.int i=>z.length<=sizeLine/\∃c,atI z.cps.toList i=some c/\k (.d (.str ⟨#[c]⟩))
 |_,_=>False
theorem atI_rep{K:PySem.W.Frag}{H:Hp}{vs:List V}{xs:List D}(r:Reps K H vs xs){i:Int}{x:D}(h:atI xs i=some x):∃v,atI vs i=some v/\Rep K H v x:=by
 unfold atI at h ⊢;rw[r.length]
 cases q:ixN xs.length i with
 |none=>rw[q]at h;cases h
 | some j =>
  rw[q]at h;exact r.get h
theorem opIx_is{x y:D}{k:L->Prop}(h:opIx x y k):∃i,y=.int i/\((∃xs,x=.lst xs/\∃v,atI xs i=some v/\k (.d v))∨(∃xs,x=.tup xs/\∃v,atI xs i=some v/\k (.d v))∨∃z,x=.str z/\z.length<=sizeLine/\∃c,atI z.cps.toList i=some c/\k (.d (.str ⟨#[c]⟩))):=by
 unfold opIx at h;split at h
 . exact⟨_,rfl,.inl ⟨_,rfl,h⟩⟩
 . exact⟨_,rfl,.inr (.inl ⟨_,rfl,h⟩)⟩
 . exact⟨_,rfl,.inr (.inr ⟨_,rfl,h⟩)⟩
 . exact h.elim
theorem pl_ix(ha:PL X a ta)(hb:PL X b tb)(hs:PlainIx b):PL X (.Subscript a b pos) (wBin opIx ta tb):=by
 intro ab s σ H Pr Z af I E h;refine Subscript_ (two (R:=λdx dy Z2=>opIx dx dy λr=>af r Z2) ha hb I E h λv u s2 x y H2 dx dy Z2 I2 r1 r2 E2 p1 p2 q=>?_);have fin:∀(Q:VK),(∀z H',Q z H'->∃r,REnv X.K Pr H' (some z::σ) (r::Z2)/\af r Z2)->∀w s',EP X ab σ Q w s'->EL X ab σ Pr af w s':=λQ hQ w s' ⟨z,H',I',rz,q⟩=>by obtain⟨r,E',p⟩:=hQ z H' q;exact⟨z,H',r,Z2,I',rz,E',p⟩
 have Eσ:=E2.tail.tail;obtain⟨i,rfl,⟨xs,rfl,z,hz',q⟩|⟨xs,rfl,z,hz',q⟩|⟨z,rfl,hz,c,hc,q⟩⟩:=opIx_is q
 .
  cases p2
  cases p1 with
  | lst hz rs =>
   obtain⟨w,hw,rw⟩:=atI_rep rs hz';exact thn (ix_list a b ab s2 σ H2 _ _ v u (λz H'=>z=w/\H'=H2) I2 r1 r2 ⟨_,_,i,w,rfl,rfl,hz.l,hw,rfl,rfl⟩ (hs _ _)) (fin _ λz H' ⟨e1,e2⟩=>by subst e1 e2;exact⟨_,Eσ.cons_d rw,q⟩)
 .
  cases p2
  cases p1 with
  | tup hz rs =>
   obtain⟨w,hw,rw⟩:=atI_rep rs hz';exact thn (ix_tup a b ab s2 σ H2 _ _ v u (λz H'=>z=w/\H'=H2) I2 r1 r2 ⟨_,_,i,w,rfl,rfl,hz,hw,rfl,rfl⟩ (hs _ _)) (fin _ λz H' ⟨e1,e2⟩=>by subst e1 e2;exact⟨_,Eσ.cons_d rw,q⟩)
 . cases p2;cases p1;exact thn (ix_str a b ab s2 σ H2 _ _ v u (λz H'=>z=.str ⟨#[c]⟩/\H'=H2) I2 r1 r2 ⟨z,i,c,rfl,rfl,hz,hc,rfl,rfl⟩ (hs _ _)) (fin _ λz H' ⟨e1,e2⟩=>by subst e1 e2;exact⟨_,Eσ.cons_d (.str _),q⟩)
end
section
variable{X:Cx}{e a b c:Expr}{es:List Expr}{pos p:Pos}{ta:W L}{x:Str}{bs:List (Option Nat)}{t:W (List L)}{id T:String}
abbrev OpN:=List D->(L->Prop)->Prop
def CallD(X:Cx)(f:Value)(op:OpN):Prop :=
 ∀(ab:List (Addr×Obj))(s:Shared)(σ:St)(H Pr:Hp)(Z:Ev)(vs:List V)(us:List Value)(ds:List D)(af:L->Prop),Inv X ab σ H s->Vals vs us->REnv X.K Pr H σ Z->Reps X.K H vs ds->op ds af ->
  wpAny (model X.prog X.w) X.A (call f us) (λw s'=>∃z H' r,Inv X ab σ H' s'/\RelV z w/\REnv X.K Pr H' (some z::σ) (r::Z)/\af r) X.xe s
theorem CallD.of{f:Value}{r:List V->Hp->VK->Prop}{op:OpN}(h:CallR X f r)(q:∀σ H Pr Z vs ds af,REnv X.K Pr H σ Z->Reps X.K H vs ds->op ds af->r vs H λz H'=>∃r,REnv X.K Pr H' (some z::σ) (r::Z)/\af r):CallD X f op :=
 λab s σ H Pr Z vs us ds af I rv E ps ho=>thn (h ab s σ H vs us _ I rv (q σ H Pr Z vs ds af E ps ho)) λw s' ⟨z,H',I',rz,r,E',p⟩=>⟨z,H',r,I',rz,E',p⟩
def wCallD(op:OpN)(t:W (List L)):W L:=λZ af=>t Z λls Z1=>toDs ls λds=>op ds λr=>af r Z1
theorem pl_callD(hc:CallD X (.builtin id) op)(hg:Gl X x)(hm:X.mg x=none)(hv:bootBuiltins x=some (.builtin id))(ha:PAL X (e::es) bs t) (hn:x≠"__name__":=by decide) (hdb:(x == ("__debug__" : Str))=false:=by decide)
  (he:starEach (e::es) X.env=(false,eval e X.env)::starEach es X.env:=by rfl) (hpl:(backTo pos (starEach es X.env)).any (·.1)=false:=by rfl):PL X (.Call (.Name x p) (e::es) [] pos) (wCallD op t):=by
 intro ab s σ H Pr Z af I E h;refine wpAny_Call_Name_kw (ld_blt I hg hm hv ?_ hn hdb);refine PyProof.Rows.callWith_builtin1 (thn (ha pos ab s σ H Pr Z _ I E h) λus s1 ⟨vs,H1,ls,Z1,I1,r1,hl,hb,E1,_,q1⟩=>?_) he hpl;obtain⟨ds,rfl,q2⟩:=toDs_is q1;have ae:vs.length=ds.length:=by simpa using hl
 exact thn (hc ab s1 σ H1 Pr Z1 vs us ds _ I1 r1 (E1.drop (by simp[ae])) (reps_of ae E1) q2) λw s2 ⟨z,H2,r,I2,rz,E2,q⟩=>⟨z,H2,r,Z1,I2,rz,E2,q⟩
theorem pl_callTD(hc:CallD X (.type T) op)(hg:Gl X x)(hm:X.mg x=none)(hv:bootBuiltins x=some (.type T))(ha:PAL X (e::es) bs t) (hn:x≠"__name__":=by decide) (hdb:(x == ("__debug__" : Str))=false:=by decide)
  (he:starEach (e::es) X.env=(false,eval e X.env)::starEach es X.env:=by rfl) (hpl:(backTo pos (starEach es X.env)).any (·.1)=false:=by rfl):PL X (.Call (.Name x p) (e::es) [] pos) (wCallD op t):=by
 intro ab s σ H Pr Z af I E h;refine wpAny_Call_Name_kw (ld_blt I hg hm hv ?_ hn hdb);refine PyProof.Rows.callWith_type1 (thn (ha pos ab s σ H Pr Z _ I E h) λus s1 ⟨vs,H1,ls,Z1,I1,r1,hl,hb,E1,_,q1⟩=>?_) he hpl;obtain⟨ds,rfl,q2⟩:=toDs_is q1;have ae:vs.length=ds.length:=by simpa using hl
 exact thn (hc ab s1 σ H1 Pr Z1 vs us ds _ I1 r1 (E1.drop (by simp[ae])) (reps_of ae E1) q2) λw s2 ⟨z,H2,r,I2,rz,E2,q⟩=>⟨z,H2,r,Z1,I2,rz,E2,q⟩
def opLen:OpN:=λds k=>match ds with
 |[.lst xs]=>k (.d (.int xs.length))
 |[.tup xs]=>k (.d (.int xs.length))
 |[.str x]=>x.length<=sizeLine/\k (.d (.int x.length))
 |_=>False
theorem reps1{K:PySem.W.Frag}{H:Hp}{vs:List V}{d:D}(r:Reps K H vs [d]):∃v,vs=[v]/\Rep K H v d:=by
 cases r with
 |cons h t=>cases t;exact⟨_,rfl,h⟩
theorem reps2{K:PySem.W.Frag}{H:Hp}{vs:List V}{d d':D}(r:Reps K H vs [d,d']):∃v w,vs=[v,w]/\Rep K H v d/\Rep K H w d':=by
 cases r with
 | cons h t=>cases t with
  |cons h' t=>cases t;exact⟨_,_,rfl,h,h'⟩
theorem cd_len:CallD X (.builtin "len") opLen:=CallD.of (call_len_seq.or call_len_str) λσ H Pr Z vs ds af E ps h=>by
 unfold opLen at h;split at h
 .
  obtain⟨v,rfl,r⟩:=reps1 ps
  cases r with
  |lst hz rs=>exact .inl ⟨_,_,rfl,.inl hz.l,_,E.cons_d (.int _),by rw[rs.length];exact h⟩
 .
  obtain⟨v,rfl,r⟩:=reps1 ps
  cases r with
  |tup hz rs=>exact .inl ⟨_,_,rfl,.inr hz,_,E.cons_d (.int _),by rw[rs.length];exact h⟩
 .
  obtain⟨v,rfl,r⟩:=reps1 ps
  cases r with
  |str z=>exact .inr ⟨_,rfl,h.1,_,E.cons_d (.int _),h.2⟩
 . exact h.elim
def opMax:OpN:=λds k=>match ds with
 |[.int i,.int j]=>k (.d (.int (if j > i then j else i)))
 |_=>False
def opMin:OpN:=λds k=>match ds with
 |[.int i,.int j]=>k (.d (.int (if j<i then j else i)))
 |_=>False
theorem cd_max(hc:X.calm=true):CallD X (.builtin "max") opMax:=CallD.of (call_max2 hc) λσ H Pr Z vs ds af E ps h=>by
 unfold opMax at h;split at h
 .
  obtain⟨v,w,rfl,r,r'⟩:=reps2 ps
  cases r with
  | int i=>cases r' with
   |int j=>exact⟨_,_,rfl,_,E.cons_d (.int _),h⟩
 . exact h.elim
theorem cd_min(hc:X.calm=true):CallD X (.builtin "min") opMin:=CallD.of (call_min2 hc) λσ H Pr Z vs ds af E ps h=>by
 unfold opMin at h;split at h
 .
  obtain⟨v,w,rfl,r,r'⟩:=reps2 ps
  cases r with
  | int i=>cases r' with
   |int j=>exact⟨_,_,rfl,_,E.cons_d (.int _),h⟩
 . exact h.elim
def opInt:OpN:=λds k=>match ds with
 |[.int i]=>k (.d (.int i))
 |[.bl b]=>k (.d (.int (if b then 1 else 0)))
 |_=>False
theorem cd_int:CallD X (.type "int") opInt:=CallD.of call_int1 λσ H Pr Z vs ds af E ps h=>by
 unfold opInt at h;split at h
 .
  obtain⟨v,rfl,r⟩:=reps1 ps
  cases r with
  |int i=>exact .inl ⟨_,rfl,_,E.cons_d (.int _),h⟩
 .
  obtain⟨v,rfl,r⟩:=reps1 ps
  cases r with
  |bl i=>exact .inr ⟨_,rfl,_,E.cons_d (.int _),h⟩
 . exact h.elim
noncomputable def tyD:D->Value
 |.non=>.type "NoneType"
 |.bl _=>.type "bool"
 |.int _=>.type "int"
 |.str _=>.type "str"
 |.tup _=>.type "tuple"
 |.lst _=>.type "list"
 |.dct _=>.type "dict"
 |.exc _ _ _=>.none
 |.fn _ _=>.type "function"
 |.dk _ _=>.type "dict"
 |.gf _=>.type "function"
def TyD(K:PySem.W.Frag)(d:D)(t:Value):Prop:=match d with
 |.exc c _ _=>∃C,t=.ref C/\excStd K c C=true
 |d=>t=tyD d
theorem exc_inst{ab:List (Addr×Obj)}{σ:St}{H:Hp}{s:Shared}{a:Addr}{o:Obj}{u:HO}{C:Addr}{ns:List Str}{vs:List V}(I:Inv X ab σ H s)(h:H a=some (.frz o u))(hc:o.cls=.ref C)(hn:PySem.W.notCls o=true)(hf:XF H o.dict ns vs):∃od,PySem.W.InstAt s.heap a o C od/\∀d,o.dict=some d->∃q,od=some q/\s.heap.get? d=some q:=by
 have e:=(show s.heap.get? a=some o/\_ from I.hok a _ h).1;rcases hf with⟨_,_,z⟩|⟨d,od,z,h2,_⟩
 . exact⟨none,⟨e,hc,hn,by rw[z];trivial⟩,λd q=>by rw[z]at q;cases q⟩
 . have e2:=(show s.heap.get? d=some od/\_ from I.hok d _ h2).1;exact⟨some od,⟨e,hc,hn,by rw[z];exact e2⟩,λd' q=>by rw[z]at q;cases q;exact⟨od,rfl,e2⟩⟩
theorem isinst_D{ab:List (Addr×Obj)}{σ:St}{H:Hp}{s:Shared}{x:V}{u c:Value}{d:D}{b:Bool}{Q:Value->Shared->Prop}{A:Around}{E:Value->Shared->Prop}(I:Inv X ab σ H s)(rx:RelV x u)(r:Rep X.K H x d)(e:∀t,TyD X.K d t->PySem.W.kitOne X.K t c=some b)(h:∀tk,Q (.bool b) {s with toks:=tk}) :
  wpAny (model X.prog X.w) A (call (.builtin "isinstance") [u,c]) Q E s:=by
 cases r with
 |non=>cases rx;exact bg PySem.W.kitx_none I.kIn True.intro (e _ rfl) (λz=>nomatch z) h
 |bl y=>cases rx;exact bg PySem.W.kitx_bool I.kIn True.intro (e _ rfl) (λz=>nomatch z) h
 |int i=>obtain⟨t,rfl⟩:=rx;exact bg PySem.W.kitx_int I.kIn True.intro (e _ rfl) (λz=>nomatch z) h
 |str y=>obtain⟨t,rfl⟩:=rx;exact bg PySem.W.kitx_str I.kIn True.intro (e _ rfl) (λz=>nomatch z) h
 | lst hz rs =>
  cases rx;obtain⟨its,_,⟨o,n,e1,c1,_,_⟩,_⟩:=I.list hz.l;exact bg PySem.W.kitx_list I.kIn ⟨o,e1,c1⟩ (e _ rfl) (λz=>nomatch z) h
 | tup hz rs =>
  cases rx;obtain⟨its,_,⟨o,e1,c1,_⟩,_⟩:=I.tuple hz;exact bg PySem.W.kitx_tuple I.kIn ⟨o,e1,c1⟩ (e _ rfl) (λz=>nomatch z) h
 | @dct a o kvs hz =>
  cases rx;obtain⟨_,_,_,vs,_,o',es,ep,h1,h2,_⟩:=(show ObjOk X.prog X.w H s.heap a (.frz o (.dK kvs))from I.hok a _ hz);exact bg PySem.W.kitx_dict I.kIn ⟨o',h1,h2.1⟩ (e _ rfl) (λz=>nomatch z) h
 | @exc a o u cc C ns vs ds h1 hv hc hn hs hq hf rs =>
  cases rx;obtain⟨od,Ia,_⟩:=exc_inst I h1 hc hn hf;obtain⟨LL,cd,S⟩:=excStd_is hs;exact bg (kitx_exc S) I.kIn ⟨_,_,Ia⟩ (e _ ⟨C,rfl,hs⟩) (λz=>nomatch z) h
 | fn hl hf hq hc hz hd hv hm r =>
  cases rx;exact bg kitx_fn I.kIn ⟨_,(I.hok _ _ hf).1,rfl⟩ (e _ rfl) (λz=>nomatch z) h
 | @dk a' o kvs ds hz rs =>
  cases rx;obtain⟨_,_,_,vs,_,o',es,ep,h1,h2,_⟩:=(show ObjOk X.prog X.w H s.heap a' (.frz o (.dK kvs))from I.hok a' _ hz);exact bg PySem.W.kitx_dict I.kIn ⟨o',h1,h2.1⟩ (e _ rfl) (λz=>nomatch z) h
 | gf hx hl hk =>
  cases rx;exact bg kitx_fn I.kIn ⟨_,I.kIn _ _ hl,rfl⟩ (e _ rfl) (λz=>nomatch z) h
noncomputable def isTy(T:String):D->Bool
 |.non=>T == "NoneType"
 |.bl _=>T == "bool" ||T == "int"
 |.int _=>T == "int"
 |.str _=>T == "str"
 |.tup _=>T == "tuple"
 |.lst _=>T == "list"
 |.dct _=>T == "dict"
 |.exc _ _ _=>(["ValueError","Exception","BaseException","object"]:List String).contains T
 |.fn _ _=>T == "function"
 |.dk _ _=>T == "dict"
 |.gf _=>T == "function"
def opIsT(T:String):D->(L->Prop)->Prop:=λd k=>k (.d (.bl (isTy T d)))
theorem pl_isT{T:String}{y:Str}{py:Pos}(hT:∀ K d t,TyD K d t->PySem.W.kitOne K t (.type T)=some (isTy T d)) (hg:Gl X "isinstance") (hm:X.mg "isinstance"=none) (hy:Gl X y) (hmy:X.mg y=none) (hby:bootBuiltins y=some (.type T)) (ha:PL X a ta)
  (hny:y≠"__name__":=by decide) (hdy:(y == ("__debug__" : Str))=false:=by decide)
  (h1:starEach [a,.Name y py] X.env=(false,eval a X.env)::starEach [.Name y py] X.env:=by rfl) (h2:starEach [.Name y py] X.env=[(false,eval (.Name y py) X.env)]:=by rfl) (hpl:(backTo pos (starEach [.Name y py] X.env)).any (·.1)=false:=by rfl) :
  PL X (.Call (.Name "isinstance" p) [a,.Name y py] [] pos) (wUn (opIsT T) ta):=by
 have cr:CallR X (.builtin "isinstance") (λxs H Q=>∃ x d,xs=[x,.ty T]/\Rep X.K H x d/\Q (.bl (isTy T d)) H):=by intro ab s σ H xs us Q I rv h;obtain⟨x,d,rfl,r,q⟩:=h;obtain⟨u,w,rfl,r1,r2⟩:=vals2 rv;cases r2;exact isinst_D I r1 r (hT _ d) λtk=>⟨.bl _,H,I.tok _,rfl,q⟩
 refine PL.of (pe_callB cr hg hm zb (pa_cons (pl_frz ha).pe (pa_cons (pe_bltn hy hmy hby (v:=.ty T) rfl hny hdy) pa_nil h2) h1) (he:=h1) (hpl:=hpl)) λσ H Pr Z af E h=>?_
 refine⟨Pr,Z,λr Z1=>match r with
  |.d x=>opIsT T x λr=>af r Z1
  |_=>False,E,h,λv H' r Z' E' p=>?_⟩
 cases r with
 | d x =>
  obtain⟨_,e1,p1⟩:=E'.head_d;cases e1;exact⟨_,x,rfl,p1,_,Z',E'.tail.cons_d (.bl _),p⟩
 |_=>exact p.elim
end
section
variable{X:Cx}{e a b:Expr}{pos p apos cpos:Pos}{tb te:W L}{x:Str}
theorem REnv.updOwn{K:PySem.W.Frag}{Pr H:Hp}{σ:St}{Z:Ev}{i:Nat}{l:Addr}{xs ys:List D}{vs:List V}(E:REnv K Pr H σ Z)(q:Z[i]?=some (.own l xs))(r:Reps K H vs ys):REnv K Pr (upd H l (.lst vs)) σ (Z.set i (.own l ys)):=by obtain⟨sv,hs,rfl,_⟩:=E.slot q;have hi:i<Z.length:=(ah.mp q).1;have E1:=(E.out q).write r;have E2:=E1.back (i:=i) (by simp[hi]) hs;rw[bR]at E2;exact E2
theorem REnv.ownAt{K:PySem.W.Frag}{Pr H:Hp}{σ:St}{Z:Ev}{i:Nat}{l:Addr}{xs:List D}(E:REnv K Pr H σ Z)(q:Z[i]?=some (.own l xs)):σ[i]?=some (some (.ref l))/\∃vs,H l=some (.lst vs)/\Reps K H vs xs:=by obtain⟨sv,hs,rfl,r⟩:=E.slot q;exact⟨hs,r⟩
def ownV(i:Nat)(Z:Ev)(k:Addr->List D->Prop):Prop:=match Z[i]? with
 |some (.own a xs)=>k a xs
 |_=>False
theorem ownV_is{i:Nat}{Z:Ev}{k:Addr->List D->Prop}(h:ownV i Z k):∃a xs,Z[i]?=some (.own a xs)/\k a xs:=by
 unfold ownV at h
 cases q:Z[i]? with
 |none=>rw[q]at h;exact h.elim
 | some l =>
  rw[q]at h
  cases l with
  |own a xs=>exact⟨a,xs,rfl,h⟩
  |un=>exact h.elim
  |d x=>exact h.elim
  |bx _ _=>exact h.elim
  |dic _ _=>exact h.elim
def wApp(i:Nat)(te:W L):W L:=λZ af=>ownV i Z λ_ _=>te Z λr Z1=>toD r λy=>ownV i Z1 λa xs=>xs.length<sizeLine/\af (.d .non) (Z1.set i (.own a (xs++[y])))
theorem pl_append(i:Nat)(he:PL X e te)(hN:X.N[i]?=some x:=by rfl)(hv:Vis X.env.scope x:=by first | exact Or.inl rfl | exact Or.inr (Or.inl rfl) | exact Or.inr (Or.inr rfl)) (hd:(x == ("__debug__" : Str))=false:=by decide)
  (hcd:(x == ("__classdict__" : Str))=false:=by decide) (hs1:starEach [e] X.env=[(false,eval e X.env)]:=by rfl) (hbase:attributeBase (.Name x p) "append" X.env (eval (.Name x p) X.env)=eval (.Name x p) X.env:=by rfl)
  (hfew:((backTo cpos (starEach [e] X.env)).all (λx=>!x.1) && (backToKw cpos (keywordEach [] X.env)).all (λx=>x.1.isSome)
   && decide (([e]).length+([]:List Keyword).length+(if([]:List Keyword).isEmpty then 0 else 1)<30))=true:=by rfl)
  (hline:(apos.endLine == cpos.line)=true:=by rfl) (hplain:(backTo cpos (starEach ([]:List Expr) X.env)).any (·.1)=false:=by rfl) :
  PL X (.Call (.Attribute (.Name x p) "append" apos) [e] [] cpos) (wApp i te):=by
 refine PL.of (pe_bm PySem.F.plainAttrs_list PySem.F.slot_list_append PySem.F.type_list_append mt_append (pe_var hN hv hd hcd) (pa_cons (pl_frz he).pe pa_nil hs1) (hbase:=hbase) (hfew:=hfew) (hline:=hline) (hs:=hs1) (hplain:=hplain)) λσ H Pr Z af E h=>?_;obtain⟨l,xs0,q0,h⟩:=ownV_is h;obtain⟨hσ,vs0,hl0,_⟩:=E.ownAt q0
 refine⟨.ref l,hσ,.inl ⟨rfl,vs0,SqL.of hl0⟩,Pr,Z,λr Z1=>match r with
  |.d y=>ownV i Z1 λa xs=>xs.length<sizeLine/\af (.d .non) (Z1.set i (.own a (xs++[y])))
  |_=>False,E,h,λv H' r Z' E' pp=>?_⟩
 cases r with
 | d y =>
  obtain⟨l',xs,q,ae,pp⟩:=ownV_is pp;obtain⟨hσ',vs,hl,r⟩:=E'.tail.ownAt q;rw[hσ]at hσ';cases hσ';obtain⟨_,e1,p1⟩:=E'.head_d;cases e1;exact⟨l,vs,v,rfl,rfl,hl,by rw[r.length];exact ae,_,_,(E'.tail.updOwn q (r.append (.cons p1 .nil))).cons_d .non,pp⟩
 |_=>exact pp.elim
def wIxV(i:Nat)(tb:W L):W L:=λZ af=>ownV i Z λ_ _=>tb Z λr Z1=>toInt r λj=>ownV i Z1 λ_ xs=>∃y,atI xs j=some y/\af (.d y) Z1
theorem pl_ixV(i:Nat)(hb:PL X b tb)(hs:PlainIx b)(hN:X.N[i]?=some x:=by rfl)(hv:Vis X.env.scope x:=by first | exact Or.inl rfl | exact Or.inr (Or.inl rfl) | exact Or.inr (Or.inr rfl)) (hd:(x == ("__debug__" : Str))=false:=by decide)
  (hcd:(x == ("__classdict__" : Str))=false:=by decide):PL X (.Subscript (.Name x p) b pos) (wIxV i tb):=by
 refine PL.of (pe_ix ix_list (pe_var hN hv hd hcd) hb.pe hs) λσ H Pr Z af E h=>?_;obtain⟨l,xs0,q0,h⟩:=ownV_is h;obtain⟨hσ,vs0,hl0,_⟩:=E.ownAt q0;refine⟨.ref l,hσ,Pr,Z,_,E,h,λv H' r Z' E' pp=>?_⟩;obtain⟨j,rfl,pp⟩:=toInt_is pp;obtain⟨l',xs,q,y,hy,pp⟩:=ownV_is pp;obtain⟨hσ',vs,hl,r⟩:=E'.tail.ownAt q;rw[hσ]at hσ';cases hσ';obtain⟨_,e1,p1⟩:=E'.head_d;cases e1;cases p1;obtain⟨w,hw,rw⟩:=atI_rep r hy;exact⟨l,vs,j,w,rfl,rfl,SqL.of hl,hw,_,Z',E'.tail.cons_d rw,pp⟩
def wLenV(i:Nat):W L:=λZ af=>ownV i Z λ_ xs=>af (.d (.int xs.length)) Z
theorem pl_lenV(i:Nat) (hg:Gl X "len") (hm:X.mg "len"=none) (hN:X.N[i]?=some x:=by rfl) (hv:Vis X.env.scope x:=by first | exact Or.inl rfl | exact Or.inr (Or.inl rfl) | exact Or.inr (Or.inr rfl)) (hd:(x == ("__debug__" : Str))=false:=by decide)
  (hcd:(x == ("__classdict__" : Str))=false:=by decide) (h1:starEach [.Name x p] X.env=[(false,eval (.Name x p) X.env)]:=by rfl) (hpl:(backTo pos (starEach ([]:List Expr) X.env)).any (·.1)=false:=by rfl) :
  PL X (.Call (.Name "len" apos) [.Name x p] [] pos) (wLenV i):=by
 refine PL.of (pe_callB call_len_seq hg hm PySem.boot_len (pa_cons (pe_var hN hv hd hcd) pa_nil h1) (he:=h1) (hpl:=hpl)) λσ H Pr Z af E h=>?_;obtain⟨l,xs0,q0,h⟩:=ownV_is h;obtain⟨hσ,vs0,hl0,r⟩:=E.ownAt q0;exact⟨.ref l,hσ,l,vs0,rfl,.inl (SqL.of hl0),_,Z,E.cons_d (.int _),by rw[r.length];exact h⟩
def wSetV(i:Nat)(tb te:W L):W Fl:=λZ af=>te Z λr Z1=>toD r λy=>ownV i Z1 λ_ _=>tb Z1 λr Z2=>toInt r λj=>ownV i Z2 λa xs=>∃k,ixN xs.length j=some k/\af .nx (Z2.set i (.own a (xs.set k y)))
theorem pm_setV(i:Nat){b:Expr}{ps:Pos}(hb:PL X b tb)(he:PL X e te)(hN:X.N[i]?=some x:=by rfl)(hv:Vis X.env.scope x:=by first | exact Or.inl rfl | exact Or.inr (Or.inl rfl) | exact Or.inr (Or.inr rfl)) (hd:(x == ("__debug__" : Str))=false:=by decide)
  (hcd:(x == ("__classdict__" : Str))=false:=by decide)
  (ha:∀v,assign (.Subscript (.Name x p) b ps) X.env v=(do
   let ov <- holding [v] (eval (.Name x p) X.env)
   let iv <- holding [v,ov] (eval b X.env)
   standAt ps
   holding [v,ov,iv] (setItem ov iv v)
   release [v,ov,iv] []):=by intro _;rfl)
  (hs:swapsWithSole [.Subscript (.Name x p) b ps] e pos.line X.env=pure false:=by rfl) (hw:swappedStores [.Subscript (.Name x p) b ps] e X.env=pure none:=by rfl)
  (h1:(assignEach [.Subscript (.Name x p) b ps] X.env).map (·.2)=[assign (.Subscript (.Name x p) b ps) X.env]:=by rfl):PM X (.Assign [.Subscript (.Name x p) b ps] e pos) (wSetV i tb te):=by
 refine PM.of (ps_asg (pl_frz he).pe (pg_sub (pe_var hN hv hd hcd) hb.pe set_list ha) hs hw h1) λσ H Pr Z af ae E h=>?_
 refine⟨Pr,Z,λr Z1=>match r with
  |.d y=>ownV i Z1 λ_ _=>tb Z1 λr Z2=>toInt r λj=>ownV i Z2 λa xs=>∃k,ixN xs.length j=some k/\af .nx (Z2.set i (.own a (xs.set k y)))
  |_=>False,E,h,λv H' r Z' E' pp=>?_⟩
 cases r with
 | d y =>
  obtain⟨l,xs0,q0,pp⟩:=ownV_is pp;obtain⟨hσ,vs0,hl0,_⟩:=E'.tail.ownAt q0;refine⟨.ref l,hσ,butOwn H' Z',Z',_,E'.tail.wide,pp,λw H2 r2 Z2 E2 pp=>?_⟩;obtain⟨j,rfl,pp⟩:=toInt_is pp;obtain⟨l',xs,q,k,hk,pp⟩:=ownV_is pp;obtain⟨_,e1,p1⟩:=E2.head_d;cases e1;cases p1;have E3:REnv X.K Pr H2 (some (.int j)::some v::σ) (.d (.int j)::.d y::Z2):=REnv.step (τ:=[some v]) (lam:=[.d y]) (w:=[some (.int j)]) (μ:=[.d (.int j)]) E' rfl E2 rfl;obtain⟨_,e1,p1⟩:=E3.tail.head_d;cases e1;obtain⟨hσ',vs,hl,r⟩:=E3.tail.tail.ownAt q;rw[hσ]at hσ';cases hσ';refine⟨l,vs,j,k,rfl,rfl,hl,by rw[r.length];exact hk,_,E3.tail.tail.updOwn q (r.set p1 k),pp⟩
 |_=>exact pp.elim
def wPart:Option (W L)->Ev->(Option Int->Ev->Prop)->Prop
 |none=>λZ k=>k none Z
 |some t=>λZ k=>t Z λr Z1=>toInt r λi=>k (some i) Z1
noncomputable def cutD{α:Type}(xs:List α)(lo hi:Option Int):List α:=(xs.drop (HT.sIx xs.length 0 lo)).take (HT.sIx xs.length xs.length hi-HT.sIx xs.length 0 lo)
end
noncomputable def unsAt:List Nat->Ev->Ev
 |[],Z=>Z
 |j::r,Z=>(unsAt r Z).set j .un
noncomputable def capsOf(fi:List Nat)(Z:Ev):Ev:=fi.map λj=>(Z[j]?).getD .un
noncomputable def capSt(fi:List Nat)(σ:St):St:=fi.map λj=>(σ[j]?).getD none
noncomputable def putAll:List Nat->Ev->Ev->Ev
 |j::r,c::cs,Z=>putAll r cs (Z.set j c)
 |_,_,Z=>Z
theorem unsAt_len:∀(fi:List Nat)(Z:Ev),(unsAt fi Z).length=Z.length
 |[],_=>rfl
 |j::r,Z=>by unfold unsAt;rw[List.length_set,unsAt_len r Z]
theorem unsAt_get:∀(fi:List Nat)(Z:Ev)(j:Nat),j∉fi->(unsAt fi Z)[j]?=Z[j]?
 |[],_,_,_=>rfl
 | i::r,Z,j,h=>by unfold unsAt;rw[br (λe=>h (by simp[e])),unsAt_get r Z j λe=>h (ag _ e)]
theorem unsAt_un:∀(fi:List Nat)(Z:Ev)(j:Nat),j∈fi->j<Z.length->(unsAt fi Z)[j]?=some .un
 | i::r,Z,j,h,hl=>by
  unfold unsAt;by_cases e:i=j
  . subst e;rw[a9 (by rw[unsAt_len];exact hl)]
  . rw[br e];exact unsAt_un r Z j ((az.mp h).resolve_left λz=>e z.symm) hl
section
variable{K:PySem.W.Frag}{Pr H:Hp}{σ:St}{Z:Ev}
theorem REnv.takeAt(E:REnv K Pr H σ Z){i:Nat}{l:L}{s:Option V}(h:Z[i]?=some l)(hs:σ[i]?=some s):REnv K Pr H (s::σ) (l::Z.set i .un):=E.outL h hs
theorem REnv.takes(E:REnv K Pr H σ Z):∀(fi:List Nat),fi.Nodup->(∀j∈fi,j<Z.length)->REnv K Pr H (capSt fi σ++σ) (capsOf fi Z++unsAt fi Z)
 |[],_,_=>E
 | j::r,nd,hl=>by
  have ih:=E.takes r (aO.mp nd).2 λi hi=>hl i (ag _ hi);have hj:j<Z.length:=hl j ai;have hjs:j<σ.length:=by rw[E.len];exact hj
  have e1:(capsOf r Z++unsAt r Z)[r.length+j]?=some Z[j]:=by rw[aj (by simp[capsOf])];simp only[capsOf,aF,aQ];rw[unsAt_get r Z j (aO.mp nd).1];exact aA hj
  have e2:(capSt r σ++σ)[r.length+j]?=some σ[j]:=by rw[aj (by simp[capSt])];simp only[capSt,aF,aQ];exact aA hjs
  have z:=ih.takeAt e1 e2;rw[List.set_append_right _ _ (by simp[capsOf])]at z;simp only[capsOf,aF,aQ]at z;have c1:capSt (j::r) σ=σ[j]::capSt r σ:=by simp[capSt,hjs]
  have c2:capsOf (j::r) Z=Z[j]::capsOf r Z:=by simp[capsOf,hj]
  rw[c1,c2];exact z
theorem REnv.backs:∀(fi:List Nat){cs Z:Ev},fi.Nodup->cs.length=fi.length->(∀j∈fi,Z[j]?=some .un)->(∀j∈fi,j<σ.length)->REnv K Pr H (capSt fi σ++σ) (cs++Z)->REnv K Pr H σ (putAll fi cs Z)
 |[],[],Z,_,_,_,_,E=>E
 | j::r,c::cs,Z,nd,hl,hu,hs,E=>by
  have hjs:j<σ.length:=hs j ai;have hj:=hu j ai;have c1:capSt (j::r) σ=σ[j]::capSt r σ:=by simp[capSt,hjs]
  rw[c1]at E;have hlr:cs.length=r.length:=by simpa using hl
  have z:=REnv.back (σ:=capSt r σ++σ) (Z:=cs++Z) (l:=c) E (i:=r.length+j) (by
   rw[aj zZ,hlr,aQ];exact hj) (by
   rw[aj (by simp[capSt])];simp only[capSt,aF,aQ]
   exact aA hjs)
  rw[List.set_append_right _ _ zZ,hlr,aQ]at z
  exact REnv.backs r (aO.mp nd).2 hlr (λi hi=>by
   rw[br (λe=>(aO.mp nd).1 (by rw[e];exact hi))];exact hu i (ag _ hi)) (λi hi=>hs i (ag _ hi)) z
 |[],_::_,_,_,hl,_,_,_=>by simp at hl
 |_::_,[],_,_,hl,_,_,_=>by simp at hl
end
noncomputable def clOf(cells:List (Str×Addr)):List (Str×NameKind)->List (Str×Addr)->List (Str×Addr)
 |[],acc=>acc
 |(n,k)::r,acc=>clOf cells r (if k == .free then(match cells.lookup n with|some c=>(n,c)::acc|none=>acc)else acc)
theorem closure_eq{env:Env}:∀(names:List (Str×NameKind))(acc:List (Str×Addr)),(∀x∈names,x.2=.free->∃c,env.cells.lookup x.1=some c) ->
  (forIn names acc λ(x:Str×NameKind) (cs:List (Str×Addr))=>(if x.2 == .free then do let c <- cellOf env x.1;pure (ForInStep.yield ((x.1,c)::cs))else pure (ForInStep.yield cs):Sem (ForInStep (List (Str×Addr)))))=pure (clOf env.cells names acc)
 |[],acc,_=>rfl
 | (n,k)::r,acc,h=>by
  rw[List.forIn_cons];by_cases hk:(k == NameKind.free)=true
  .
   obtain⟨c,hc⟩:=h (n,k) ai (by simpa using hk);have e:cellOf env n=pure c:=by unfold cellOf;rw[show env.cells.lookup n=some c from hc]
   simp only[hk,if_true,e,pure_bind,clOf,hc];exact closure_eq r _ λx hx=>h x (ag _ hx)
  . simp only[hk,clOf,if_false,pure_bind];exact closure_eq r _ λx hx=>h x (ag _ hx)
theorem closureFor_cl{scope:Scope}{env:Env}(h:∀x∈scope.names,x.2=.free->∃c,env.cells.lookup x.1=some c):closureFor scope env=pure (clOf env.cells scope.names []):=by have:=closure_eq (env:=env) scope.names [] h;unfold closureFor;simp only[bind_pure_comp]at this ⊢;rw[this];rfl
theorem clOf_sub{cells:List (Str×Addr)}:∀(names:List (Str×NameKind))(acc:List (Str×Addr)),(∀x c,acc.lookup x=some c->cells.lookup x=some c)->∀x c,(clOf cells names acc).lookup x=some c->cells.lookup x=some c
 |[],acc,h,x,c,e=>h x c e
 | (n,k)::r,acc,h,x,c,e=>by
  unfold clOf at e;refine clOf_sub r _ (λy d ey=>?_) x c e;split at ey
  .
   split at ey
   .
    rename_i q;rw[aT]at ey;split at ey
    .
     rename_i e2;have:y=n:=by simpa using e2
     cases ey;rw[this];exact q
    . exact h y d ey
   . exact h y d ey
  . exact h y d ey
theorem lookup_some_cons{n:Str}{c:Addr}{acc:List (Str×Addr)}{x:Str}(h:∃d,acc.lookup x=some d):∃d,((n,c)::acc).lookup x=some d:=by
 rw[aT];split
 . exact⟨_,rfl⟩
 . exact h
theorem clOf_has{cells:List (Str×Addr)}:∀(names:List (Str×NameKind))(acc:List (Str×Addr))(x:Str),((∃d,acc.lookup x=some d)∨((x,NameKind.free)∈names/\∃c,cells.lookup x=some c))->∃d,(clOf cells names acc).lookup x=some d
 | [],acc,x,h=>by
  rcases h with h|⟨h,_⟩
  . exact h
  . simp at h
 | (n,k)::r,acc,x,h=>by
  unfold clOf;refine clOf_has r _ x ?_;rcases h with h|⟨hm,c,hc⟩
  .
   left;split
   .
    split
    . exact lookup_some_cons h
    . exact h
   . exact h
  .
   rcases az.mp hm with e|hm
   . cases e;left;simp only[hc,beq_self_eq_true,if_true];exact⟨c,by simp[aT]⟩
   . exact .inr ⟨hm,c,hc⟩
noncomputable def cxComp(X:Cx)(scope:Scope)(cl:List (Str×Addr))(Nb:List Str)(s₀:Shared)(H₀:Hp)(fp:List Addr):Cx :=
 {X with N:=Nb,s₀:=s₀,H₀:=H₀,env:=compEnvC scope cl s₀.heap.objs.size X.env,outer:=X.stack,stack:=X.stack,ex:=fp,fn:=λ_=>false,pn:=[],xe:=λ_ _=>False}
theorem paired_iff{α β:Type}{F:α->β->Prop}:∀{a:List α}{b:List β},Paired F a b↔a.length=b.length/\∀p∈a.zip b,F p.1 p.2
 |[],[]=>⟨λ_=>⟨rfl,λ_ h=>by simp at h⟩,λ_=>.nil⟩
 |[],_::_=>⟨(λh=>nomatch h),λh=>by simp at h⟩
 |_::_,[]=>⟨(λh=>nomatch h),λh=>by simp at h⟩
 | x::a,y::b=>by
  constructor
  .
   intro h
   cases h with
   | cons r t =>
    obtain⟨h1,h2⟩:=paired_iff.mp t
    exact⟨by simp[h1],λp hp=>by
     rw[bN]at hp;rcases az.mp hp with rfl|hp
     . exact r
     .
      exact h2 p hp⟩
  . rintro⟨hl,h⟩;exact .cons (h (x,y) zY) (paired_iff.mpr ⟨by simpa using hl,λp hp=>h p (by rw[bN];exact ag _ hp)⟩)
theorem owns_zip:∀{σ:St}{Z:Ev},σ.length=Z.length->(σ.zip Z).map (·.2)=Z
 |[],[],_=>rfl
 | _::σ,l::Z,h=>by have ih:=owns_zip (σ:=σ) (Z:=Z) (by simpa using h);rw[bN,aL,ih]
 |[],_::_,h=>by simp at h
 |_::_,[],h=>by simp at h
theorem REnv.rearr{K:PySem.W.Frag}{Pr H:Hp}{σ σ2:St}{Z Z2:Ev}(E:REnv K Pr H σ Z)(hl:σ2.length=Z2.length)(extra:List (Option V×L))(h:(σ.zip Z).Perm (σ2.zip Z2++extra)):REnv K Pr H σ2 Z2:=by
 have pm:(owns Z).Perm (owns Z2++owns (extra.map (·.2))):=by have q:=owns_perm (h.map (·.2));rw[bp,owns_zip E.len,owns_zip hl,owns_append]at q;exact q
 refine⟨E.sub,(aJ.mp (pm.nodup_iff.mp E.nd)).1,λa ha=>E.off a (pm.mem_iff.mpr (au _ ha)),paired_iff.mpr ⟨hl,λp hp=>?_⟩⟩;exact(paired_iff.mp E.sl).2 p (h.mem_iff.mpr (au _ hp))
theorem capSt_app{fi:List Nat}{σ τ:St}(h:∀j∈fi,j<σ.length):capSt fi (σ++τ)=capSt fi σ:=by unfold capSt;refine List.map_congr_left λj hj=>?_;rw[aE (h j hj)]
theorem capsOf_app{fi:List Nat}{σ τ:Ev}(h:∀j∈fi,j<σ.length):capsOf fi (σ++τ)=capsOf fi σ:=by unfold capsOf;refine List.map_congr_left λj hj=>?_;rw[aE (h j hj)]
theorem unsAt_app{τ:Ev}:∀{fi:List Nat}{Z:Ev},(∀j∈fi,j<Z.length)->unsAt fi (Z++τ)=unsAt fi Z++τ
 |[],_,_=>rfl
 | j::r,Z,h=>by unfold unsAt;rw[unsAt_app λi hi=>h i (ag _ hi),List.set_append_left _ _ (by rw[unsAt_len];exact h j ai)]
theorem putAll_app{τ:Ev}:∀{fi:List Nat}{cs Z:Ev},(∀j∈fi,j<Z.length)->putAll fi cs (Z++τ)=putAll fi cs Z++τ
 |[],[],_,_=>rfl
 |[],_::_,_,_=>rfl
 |_::_,[],_,_=>rfl
 | j::r,c::cs,Z,h=>by unfold putAll;rw[List.set_append_left _ _ (h j ai)];exact putAll_app λi hi=>by rw[List.length_set];exact h i (ag _ hi)
theorem lookup_relabel_free {env:Env}:∀{names:List (Str×NameKind)} {x:Str},names.lookup x=some .free →
  (names.map fun (n,k)=>if (k == NameKind.free && env.scope.kind == .function && env.kindOf n == some .cell) then (n,NameKind.cell) else (n,k)).lookup x=some .cell ∨
  (names.map fun (n,k)=>if (k == NameKind.free && env.scope.kind == .function && env.kindOf n == some .cell) then (n,NameKind.cell) else (n,k)).lookup x=some .free
 | [],_,h=>by simp at h
 | (n,k)::r,x,h=>by
  have ih:=@lookup_relabel_free env r x
  rw [aL]
  cases hx:x == n with
  | true =>
   simp only [aT,hx] at h
   cases h
   dsimp only
   by_cases hc:(NameKind.free == NameKind.free && env.scope.kind == .function && env.kindOf n == some .cell)=true
   .
    left;rw [if_pos hc];simp [aT,hx]
   .
    right;rw [if_neg hc];simp [aT,hx]
  | false =>
   simp only [aT,hx] at h
   dsimp only
   by_cases hc:(k == NameKind.free && env.scope.kind == .function && env.kindOf n == some .cell)=true
   .
    rw [if_pos hc];simp only [aT,hx];exact ih h
   .
    rw [if_neg hc];simp only [aT,hx];exact ih h
theorem relabel_mem {env:Env}:∀{names:List (Str×NameKind)} {x:Str} {k:NameKind},(∀y∈names,y.2≠.cell)→(k=.cell∨k=.free) →
  (names.map fun (n,k)=>if (k == NameKind.free && env.scope.kind == .function && env.kindOf n == some .cell) then (n,NameKind.cell) else (n,k)).lookup x=some k→(x,NameKind.free)∈names
 | [],_,_,_,_,h=>by simp at h
 | (n,k0)::r,x,k,hc,hk,h=>by
  rw [aL] at h
  dsimp only at h
  by_cases q:(k0 == NameKind.free && env.scope.kind == .function && env.kindOf n == some .cell)=true
  .
   rw [if_pos q,aT] at h
   have e0:k0=.free:=by
    have:=(bD.mp (bD.mp q).1).1
    simpa using this
   split at h
   .
    rename_i e
    have:x=n:=by simpa using e
    subst this e0
    exact ai
   .
    exact ag _ (relabel_mem (fun y hy=>hc y (ag _ hy)) hk h)
  .
   rw [if_neg q,aT] at h
   split at h
   .
    rename_i e
    have:x=n:=by simpa using e
    subst this
    have e1:k0=k:=by simpa using h
    subst e1
    rcases hk with z|z
    .
     exact absurd z (hc (x,k0) ai)
    .
     subst z;exact ai
   .
    exact ag _ (relabel_mem (fun y hy=>hc y (ag _ hy)) hk h)
section
variable{prog:Program}{w:World}{A:Around}{R:Result->Shared->Prop}
theorem comp_loop{elt target iter:Expr}{ifs:List Expr}{scope:Scope}{pos:Pos}{it acc:Value}{env:Env}(I:Nat->Shared->Prop)
  (turn:∀n s,I n s->wpAny (model prog w) A (pyNext it) (λr s₁=>match r with
   |none=>R (.ok .next) s₁
   | some v=>wpAny (model prog w) A (letOwnedTupleGo target it v) (λ_ s₀=>wpAny (model prog w) A (assign target env v) (λ_ s₂ =>
     wpAny (model prog w) A (forIn ifs true λc r=>if r=true then do let ok <- isTrue c env (eval c env);pure (ForInStep.yield ok)else pure (ForInStep.yield r)) (λok s₃ =>
      if ok=true then wpAny (model prog w) A (eval elt env) (λx s₄ =>
       wpAny (model prog w) A (call (.builtin "list.append") [acc,x]) (λ_ s₅=>∃ m,m < n/\I m s₅) (λ_ _=>False) s₄) (λ_ _=>False) s₃
      else ∃m,m<n/\I m s₃) (λ_ _=>False) s₂) (λ_ _=>False) s₀) (λ_ _=>False) s₁) (λ_ _=>False) s)
  (n:Nat) {s:Shared} (h:I n s) :
  codeAny (model prog w) A (.compLoop (.ListComp elt [⟨target,iter,ifs,0⟩] scope pos) 0 it acc env) R s:=by
 refine codeAny_loop rfl I (λn s hI=>?_) n h
 show wpAny _ A ((compTurn (.ListComp elt [⟨target,iter,ifs,0⟩] scope pos) 0 it acc env).onRaise (λx=>do noteFrame x env;theTreesLotGoes x)) _ _ s
 refine wpAny_noted ?_;rw[compTurn_list];have fe:∀{α:Type}{t:Sem α}{Q:α->Shared->Prop}{E:Value->Shared->Prop}{s:Shared},wpAny (model prog w) A t Q (λ_ _=>False) s->wpAny (model prog w) A t Q E s:=λh=>bT h (λ_ _ q=>q) λ_ _ z=>z.elim;refine ak (wpAny_standAt (ak (bT (turn n s hI) (λr s₁ h₁=>?_) λ_ _ h'=>h'.elim)))
 cases r with
 |none=>exact aD h₁
 | some v =>
  refine ak (bT h₁ (λ_ s₀ h₀=>?_) λ_ _ z=>z.elim);refine ak (bT h₀ (λ_ s₂ h₂=>ak (bT h₂ (λok s₃ h₃=>?_) λ_ _ h'=>h'.elim)) λ_ _ h'=>h'.elim)
  cases ok with
  |false=>exact aD ⟨rfl,h₃⟩
  | true =>
   exact ak (ak (bT h₃ (λx s₄ h₄=>ak (bT h₄ (λ_ s₅ h₅=>aD (aD ⟨rfl,h₅⟩)) λ_ _ h'=>h'.elim)) λ_ _ h'=>h'.elim))
end
def PTc(X:Cx)(tg:Expr)(n:Nat)(g:Tg):Prop:=∃gg:TG,PG X tg gg/\∀v σ H Pr Z x k,σ.length=X.N.length->REnv X.K Pr H σ Z->Rep X.K H v x->g x Z k->gg v σ H λσ' H'=>H'=H/\σ'.drop n=σ.drop n/\∃Z',REnv X.K Pr H σ' Z'/\k Z'
theorem tc_name{X:Cx}{i n:Nat}{x:Str}{pos:Pos}(hn:i<n)(hN:X.N.Nodup)(hi:X.N[i]?=some x)(hx:Loc X.env.scope x)(hf:X.fn x=true∨X.env.scope.names.lookup x=some .local:=by first|exact .inl rfl|exact .inr rfl|assumption):PTc X (.Name x pos) n (tgName i) :=
 ⟨_,pg_name hN hi hx hf,λv σ H Pr Z x k hl E r h=>⟨rfl,by rw[List.drop_set_of_lt hn],_,(E.cons_d r).store (by rw[hl];exact(ah.mp hi).1),h⟩⟩
def PIf(X:Cx)(ifs:List Expr)(t:W Bool):Prop :=
 ∀(ab:List (Addr×Obj))(s:Shared)(σ:St)(H Pr:Hp)(Z:Ev)(af:Bool->Ev->Prop),Inv X ab σ H s->REnv X.K Pr H σ Z->t Z af ->
  wpAny (model X.prog X.w) X.A (forIn ifs true λc r=>if r=true then do let ok <- isTrue c X.env (eval c X.env);pure (ForInStep.yield ok)else pure (ForInStep.yield r)) (EB X ab σ Pr af) X.xe s
def wTrue:W Bool:=λZ af=>af true Z
theorem pif_nil{X:Cx}:PIf X [] wTrue:=λab s σ H Pr Z af I E h=>wpAny_tests_nil ⟨H,Z,I,E,h⟩
def compL(g:Tg)(ti:W Bool)(te:W L):List D->Ev->List D->(List D->Ev->Prop)->Prop
 |[],Z,acc,k=>k acc Z
 |x::xs,Z,acc,k=>g x Z λZ1=>ti Z1 λb Z2=>if b=true then te Z2 λr Z3=>toD r λy=>compL g ti te xs Z3 (acc++[y]) k else compL g ti te xs Z2 acc k
def wComp(n:Nat)(fi:List Nat)(src:W (List D))(g:Tg)(ti:W Bool)(te:W L):W L:=λZ af=>src Z λxs Z1=>xs.length<=sizeLine /\
 compL g ti te xs (List.replicate n .un++capsOf fi Z1) [] λys ρb=>∀a,af (.own a ys) (putAll fi (ρb.drop n) (unsAt fi Z1))
section
variable{X:Cx}
theorem comp_core {elt tg iter:Expr} {ifs:List Expr} {scope sc:Scope} {pos:Pos} {N Nt Nf:List Str} {fi:List Nat} {src:W (List D)} {g:Tg} {ti:W Bool} {te:W L}
  (hsc:X.env.scope=sc) (hXN:X.N=N) (hc:X.calm=true) (hi:PIL X tg iter src)
  (hkind:scope.kind=.function) (hnames:∀x∈scope.names,x.2=.local→scope.names.lookup x.1=some .local) (hcell:∀y∈scope.names,y.2≠.cell)
  (hfr:∀x∈scope.names,x.2=.free→sc.names.lookup x.1=some .cell∨sc.names.lookup x.1=some .free)
  (hnd:fi.Nodup) (hNf:Nf.map some=fi.map (fun j=>N[j]?)) (hNk:∀x∈Nf,scope.names.lookup x=some .free) (hfl:∀j∈fi,j <N.length)
  (hg:∀cl s₀ H₀ fp,PTc (cxComp X scope cl (Nt++Nf) s₀ H₀ fp) tg Nt.length g) (hti:∀cl s₀ H₀ fp,PIf (cxComp X scope cl (Nt++Nf) s₀ H₀ fp) ifs ti) (hte:∀cl s₀ H₀ fp,PL (cxComp X scope cl (Nt++Nf) s₀ H₀ fp) elt te)
  {ab:List (Addr×Obj)} {s:Shared} {σ:St} {H Pr:Hp} {Z:Ev} {af:L→Ev→Prop} {use:Option (Value→Sem Unit)} {Q:Value→Shared→Prop} (I:Inv X ab σ H s) (E:REnv X.K Pr H σ Z) (h:wComp Nt.length fi src g ti te Z af)
  (hRR:∀D C s7 H6 acc Z'' m,Inv X ab σ H6 s7→s7.heap.Ns C m→H6 C=none→C≠X.env.locals→X.s₀.heap.objs.size<=C→(∀x c,X.env.cells.lookup x=some c→c≠C)→(∀p∈X.pn++ab,p.1≠C)→REnv X.K Pr H6 (some (.ref D)::σ) (.own D acc::Z'')→af (.own D acc) Z'' →
   compPost (model X.prog X.w) X.A X.xe use Q (.ref D) C (.ok .next) s7)
  (hs:∀x,foldedSetIterable iter X.env x=pure x):wpAny (model X.prog X.w) X.A (comprehension (.ListComp elt [⟨tg,iter,ifs,0⟩] scope pos) scope X.env (firstIterPos [⟨tg,iter,ifs,0⟩] pos) (newList []) false (eval iter X.env) use) Q X.xe s:=by
 have hcells:∀x∈scope.names,x.2=.free→∃c,X.env.cells.lookup x.1=some c:=fun x hx hk=>I.ok.has x.1 (by
  show X.env.scope.names.lookup x.1=_∨X.env.scope.names.lookup x.1=_
  rw [hsc];exact hfr x hx hk)
 have hsub:=clOf_sub (cells:=X.env.cells) scope.names [] (fun x c e=>by simp at e)
 refine wpAny_comprehension_free (use:=use) rfl hs (closureFor_cl hcells) hkind hnames (thn (hi ab s σ H Pr Z _ I E h) fun v s1 h1=>thn h1 fun itv s2 h2=>?_)
 obtain ⟨it,fp,tn,J,H2,xs,Z2,e,I2,T,st2,f2,E2,G,ae,w0⟩:=h2
 subst e
 refine wpAny_newObj_type (T:="list") ?_
 generalize hD:s2.heap.objs.size=D
 have fD:H2 D=none:=by rw [<- hD];exact I2.fresh
 have I3:Inv X ab σ (upd H2 D (.lst [])) { s2 with heap:=s2.heap.push { cls:=.type "list",dict:=none,data:=.seq ([]:List Value).toArray } }:=by
  have:=Inv.lnew (ys:=[]) (its:=[]) (t':=s2.toks) I2 .nil (b7 _)
  rw [hD] at this
  exact this
 have E3:=E2.cons_own (p:=D) (vs:=[]) (xs:=[]) fD .nil
 have sz3:(s2.heap.push { cls:=.type "list",dict:=none,data:=.seq ([]:List Value).toArray }).objs.size=D+1:=by rw [Heap.size_push,hD]
 generalize hs3:({ s2 with heap:=s2.heap.push { cls:=.type "list",dict:=none,data:=.seq ([]:List Value).toArray } }:Shared)=s3 at I3
 have hs3h:s3.heap=s2.heap.push { cls:=.type "list",dict:=none,data:=.seq ([]:List Value).toArray }:=by rw [<- hs3]
 have fpD:∀b∈fp,b≠D:=fun b hb=>by
  obtain ⟨o,e,_⟩:=T.obj 0 _ st2 b hb
  rw [<- hD];exact bc (ay e)
 have old3:∀b o,s2.heap.get? b=some o→s3.heap.get? b=some o:=fun b o e=>by rw [hs3h];exact av _ e
 refine wpAny_newFunctionEnv (around:=some X.env) hcell (by intro y hy;simp at hy) (fun h4 hns4 hsb4=>?_) hkind
 have hns4':h4.Ns s3.heap.objs.size (fun _=>none):=by
  have:(fun x=>(([]:List (Str×Value)).reverse.lookup x))=fun _=>(none:Option Value):=by funext x;rfl
  rw [this] at hns4
  exact hns4
 have old4:∀b o,s3.heap.get? b=some o→h4.get? b=some o:=fun b o e=>by
  rw [hsb4.2 b (bc (ay e))];exact av _ e
 have hσl:σ.length=N.length:=by rw [<- hXN];exact I.len
 have hρ2:σ.length=Z2.length:=E2.len
 have hjσ:∀j∈fi,j <σ.length:=fun j hj=>by rw [hσl];exact hfl j hj
 have hjρ:∀j∈fi,j <Z2.length:=fun j hj=>by rw [<- hρ2];exact hjσ j hj
 have hfpl:∀b∈fp,b <s3.heap.objs.size:=fun b hb=>by
  obtain ⟨o,e,_⟩:=T.obj 0 _ st2 b hb
  exact ay (old3 b o e)
 have hlNf:Nf.length=fi.length:=by have:=congrArg List.length hNf;simpa using this
 have Bok:(cxComp X scope (clOf X.env.cells scope.names []) (Nt++Nf) s3 (upd H2 D (.lst [])) fp).Ok:=by
  refine ⟨I3.ok.mod,hkind,I.ok.glob,I.ok.blt,ao _,fun x y c e1 e2=>I.ok.inj x y c (hsub x c e1) (hsub y c e2),fun x hx=>?_,fun x c hf _=>(aH hf).elim,I.ok.hd,I.ok.frames,.inl rfl,fun b hb=>⟨bc (hfpl b hb),fun x c e=>(f2 b hb).2.2.2.2.1 x c (hsub x c e)⟩,I3.bs,aY I.ok.bsz I3.sz,fun b o e hb=>?_,fun b hb hm=>?_,I3.stack,I3.stkFree,I3.tbs⟩
  .
   have hm:(x,NameKind.free)∈scope.names:=by
    rcases hx with hx|hx
    .
     exact relabel_mem (env:=X.env) hcell (.inl rfl) hx
    .
     exact relabel_mem (env:=X.env) hcell (.inr rfl) hx
   exact clOf_has scope.names [] x (.inr ⟨hm,hcells _ hm rfl⟩)
  .
   rcases (f2 b hb).2.2.2.1 with z|z
   .
    exact I.ok.noex b o e z
   .
    exact absurd (aq (ay (I.ok.bs b o e).1) z) (bW _)
  .
   rcases az.mp (I3.stkSub b hm) with z|z
   .
    exact (f2 b hb).2.1 z
   .
    exact (f2 b hb).2.2.1 z
 have I4:Inv (cxComp X scope (clOf X.env.cells scope.names []) (Nt++Nf) s3 (upd H2 D (.lst [])) fp) [] (List.replicate Nt.length none++capSt fi σ) (upd H2 D (.lst [])) { s3 with heap:=h4,toks:=s3.toks+([]:List (Str×Value)).length }:=by
  refine ⟨Bok,rfl,I3.bare,Un.kept old4,⟨_,hns4',fun i x v e1 e2 e3=>?_⟩,fun x c e=>?_,I3.fresh,fun x c e=>(I3.freeC x c (hsub x c e)).imp id fun z=>⟨rfl,z.2⟩,fun p hp=>absurd (show p∈([]:List (Addr×Obj)) from hp) zY,I3.hok.kept old4,?_⟩
  .
   have e1:(Nt++Nf)[i]?=some x:=e1
   have hi':Nt.length<=i:=by
    by_cases q:i <Nt.length
    .
     rw [aE (by simpa using q),List.getElem?_replicate] at e2
     split at e2<;>cases e2
    .
     omega
   rw [aj hi'] at e1
   rw [aj (by simpa using hi')] at e2
   simp only [List.length_replicate] at e2
   generalize i - Nt.length=k at e1 e2
   have hk:k <fi.length:=by
    have:=(ah.mp e1).1
    omega
   have e4:(Nf.map some)[k]?=(fi.map fun j=>N[j]?)[k]?:=by rw [hNf]
   rw [bo,bo,e1,aA hk] at e4
   have e5:N[fi[k]]?=some x:=by simpa using e4.symm
   have e6:σ[fi[k]]?=some (some v):=by
    unfold capSt at e2
    rw [bo,aA hk] at e2
    have hjl:=hjσ fi[k] (List.getElem_mem hk)
    rw [aA hjl]
    simpa [aA hjl] using e2
   have hxm:x∈Nf:=bu e1
   have hfree:=hNk x hxm
   have hmem:(x,NameKind.free)∈scope.names:=bI hfree
   have hkx:=hfr _ hmem rfl
   obtain ⟨m,_,hl⟩:=I3.loc
   obtain ⟨u,ru,lk⟩:=hl fi[k] x v (by rw [hXN];exact e5) e6 (by rw [hsc];exact .inr hkx)
   refine ⟨u,ru,.inr ⟨lookup_relabel_free (env:=X.env) hfree,?_⟩⟩
   rcases lk with ⟨z,_⟩|⟨_,c,hc1,hc2⟩
   .
    have z:X.env.scope.names.lookup x=some .local:=z
    rw [hsc] at z
    rcases hkx with q|q
    .
     rw [z] at q;cases q
    .
     rw [z] at q;cases q
   .
    obtain ⟨d,hd⟩:=clOf_has (cells:=X.env.cells) scope.names [] x (.inr ⟨hmem,c,hc1⟩)
    have:d=c:=by have:=hsub x d hd;rw [hc1] at this;exact (a8 this).symm
    subst this
    obtain ⟨o,ho,hdd⟩:=hc2
    exact ⟨d,hd,o,old4 _ o ho,hdd⟩
  .
   obtain ⟨v,o,ho,hd⟩:=I3.cell x c (hsub x c e)
   exact ⟨v,o,old4 c o ho,hd⟩
  .
   show (List.replicate Nt.length none++capSt fi σ).length=(Nt++Nf).length
   simp [capSt,hlNf]
 have E4:REnv X.K Pr (upd H2 D (.lst [])) (some (.ref D)::(σ++(List.replicate Nt.length none++capSt fi σ))) (.own D []::(unsAt fi Z2++(List.replicate Nt.length .un++capsOf fi Z2))):=by
  have a1:REnv X.K Pr (upd H2 D (.lst [])) (σ++[some (.ref D)]) (Z2++[.own D []]):=E3.rearr (by simp [hρ2]) [] (by
   rw [bG,bf hρ2]
   exact (aX (l₁:=[(some (V.ref D),L.own D [])]) (l₂:=σ.zip Z2)))
  have a2:=a1.takes fi hnd fun j hj=>by have:=hjρ j hj;simp;omega
  rw [capSt_app hjσ,capsOf_app hjρ,unsAt_app hjρ] at a2
  have a3:=a2.uns Nt.length
  have hcl:(capSt fi σ).length=(capsOf fi Z2).length:=by simp [capSt,capsOf]
  have hul:σ.length=(unsAt fi Z2).length:=by rw [unsAt_len];exact hρ2
  refine a3.rearr (by simp [hul,hcl]) [] ?_
  have l1:(capSt fi σ++(σ++[some (V.ref D)])++List.replicate Nt.length none).zip (capsOf fi Z2++(unsAt fi Z2++[L.own D []])++List.replicate Nt.length L.un)=((capSt fi σ).zip (capsOf fi Z2)++(σ.zip (unsAt fi Z2)++[(some (V.ref D),L.own D [])]))++(List.replicate Nt.length none).zip (List.replicate Nt.length L.un):=by
   rw [bf (by simp only [aC,hcl,hul];rfl),bf hcl,bf hul]
   rfl
  have l2:(some (V.ref D)::(σ++(List.replicate Nt.length none++capSt fi σ))).zip (L.own D []::(unsAt fi Z2++(List.replicate Nt.length L.un++capsOf fi Z2)))=(some (V.ref D),L.own D [])::(σ.zip (unsAt fi Z2)++((List.replicate Nt.length none).zip (List.replicate Nt.length L.un)++(capSt fi σ).zip (capsOf fi Z2))):=by
   rw [bN,bf hul,bf zY]
  rw [bG,l1,l2]
  generalize (capSt fi σ).zip (capsOf fi Z2)=z1
  generalize σ.zip (unsAt fi Z2)=z2
  generalize (List.replicate Nt.length none).zip (List.replicate Nt.length L.un)=z3
  show (z1++(z2++[(some (V.ref D),L.own D [])])++z3).Perm ((some (V.ref D),L.own D [])::(z2++(z3++z1)))
  have p1:(z1++(z2++[(some (V.ref D),L.own D [])])++z3).Perm ((z2++[(some (V.ref D),L.own D [])])++z3++z1):=by
   rw [aV]
   exact aX
  refine p1.trans ?_
  rw [aV,aV]
  exact List.perm_middle
 clear E3
 let B:Cx:=cxComp X scope (clOf X.env.cells scope.names []) (Nt++Nf) s3 (upd H2 D (.lst [])) fp
 have hul:σ.length=(unsAt fi Z2).length:=by rw [unsAt_len];exact hρ2
 have stat:∀{H':Hp},(∀b∈fp,H' b=none)→∀b∈fp,FpOk B [] H' b:=fun hn b hb=>by
  refine ⟨hn b hb,bc (hfpl b hb),fun hm=>?_,.inl hb,fun x c e=>(f2 b hb).2.2.2.2.1 x c (hsub x c e),fun p hp=>absurd (show p∈([]:List (Addr×Obj)) from hp) zY⟩
  rcases az.mp (I3.stkSub b hm) with z|z
  .
   exact (f2 b hb).2.1 z
  .
   exact (f2 b hb).2.2.1 z
 have loop:∀s5:Shared,s5={ s3 with heap:=h4,toks:=s3.toks+([]:List (Str×Value)).length }→codeAny (model X.prog X.w) X.A (.compLoop (.ListComp elt [⟨tg,iter,ifs,0⟩] scope pos) 0 (.ref it) (.ref D) B.env)
   (compPost (model X.prog X.w) X.A X.xe use Q (.ref D) s3.heap.objs.size) s5:=by
  rintro s5 rfl
  refine comp_loop (fun n s'=>∃i σ' H' Z' acc,n+i=xs.length∧Inv B [] σ' H' s'∧tn i s'.heap∧(∀b∈fp,H' b=none)∧σ'.drop Nt.length=capSt fi σ∧REnv X.K Pr H' (some (.ref D)::(σ++σ')) (.own D acc::(unsAt fi Z2++Z'))∧acc.length<=i ∧
   compL g ti te (xs.drop i) Z' acc fun ys ρb=>∀a,af (.own a ys) (putAll fi (ρb.drop Nt.length) (unsAt fi Z2))) ?_ xs.length
   ⟨0,_,_,_,[],zZ,I4,T.keep 0 _ _ st2 fun b hb o e=>old4 b o (old3 b o e),fun b hb=>by rw [upd_ne (fpD b hb)];exact (f2 b hb).1,zY,E4,ao _,by simpa using w0⟩
  rintro n s6 ⟨i,σ6,H6,Z6,acc,hn,I6,st6,fr6,dr6,E6,hal,w6⟩
  have pr:Pres H2 H6:=fun b o p e=>by
   have ne:b≠D:=fun z=>by rw [z,fD] at e;cases e
   have e':B.H₀ b=some o:=by show upd H2 D (.lst []) b=some o;rw [upd_ne ne];exact e
   cases o with
   | tup ys=>exact I6.base.tups b ys e'
   | frz ob u=>exact I6.base.frzs b ob u e'
   | tbl t=>exact I6.base.tbls b t e'
   | _=>exact p.elim
  obtain ⟨go,stop⟩:=G H6 pr
  have hτ:(some (V.ref D)::σ).length=(L.own D acc::unsAt fi Z2).length:=by simp [hul]
  by_cases hlt:i <xs.length
  .
   obtain ⟨hgo,hy⟩:=go i xs[i] (aA hlt)
   rw [bB hlt] at w6
   refine thn (T.item B rfl rfl rfl hc i [] s6 σ6 H6 (fun _ _=>False) I6 (stat fr6) st6 hgo) fun r s7 ⟨u,hr,h7⟩=>?_
   subst hr
   refine thn h7 fun _ s8 ⟨x,H8,I8,r8,y8,st8,fr8⟩=>?_
   obtain ⟨gr,rx⟩:=hy x H8 y8
   have I8':=I8.pinned (stat fr8) (T.obj _ _ st8)
   have E8:=E6.grown gr
   have E8a:REnv X.K (butOwn H8 Z6) H8 σ6 Z6:=(REnv.drop (τ:=some (V.ref D)::σ) (lam:=L.own D acc::unsAt fi Z2) E8 hτ).wide
   obtain ⟨gg,hgg,hgs⟩:=hg (clOf X.env.cells scope.names []) s3 (upd H2 D (.lst [])) fp
   refine thn (hgg _ s8 σ6 H8 x u _ I8' r8 (hgs x σ6 H8 _ Z6 xs[i] _ I8.len E8a rx w6)) fun _ s9 ⟨σ9,H9,I9,e9,dr9,Z9,E9,q9⟩=>?_
   subst e9
   have F9:REnv X.K Pr H9 (some (V.ref D)::(σ++σ9)) (L.own D acc::(unsAt fi Z2++Z9)):=REnv.step (τ:=some (V.ref D)::σ) (lam:=L.own D acc::unsAt fi Z2) (w:=[]) (μ:=[]) E8 hτ E9 rfl
   have F9a:REnv X.K (butOwn H9 Z9) H9 σ9 Z9:=(REnv.drop (τ:=some (V.ref D)::σ) (lam:=L.own D acc::unsAt fi Z2) F9 hτ).wide
   refine thn (hti _ _ _ _ _ s9 σ9 H9 _ Z9 _ I9 F9a q9) fun ok sA ⟨HA,ρA,IA,EA,qA⟩=>?_
   have FA:REnv X.K Pr HA (some (V.ref D)::(σ++σ9)) (L.own D acc::(unsAt fi Z2++ρA)):=REnv.step (τ:=some (V.ref D)::σ) (lam:=L.own D acc::unsAt fi Z2) (w:=[]) (μ:=[]) F9 hτ EA rfl
   have again:∀{sZ:Shared} {HZ:Hp} {ρZ:Ev} {acc':List L2.D},Inv B ([]++pinsAt fp s8.heap) σ9 HZ sZ→REnv X.K Pr HZ (some (.ref D)::(σ++σ9)) (.own D acc'::(unsAt fi Z2++ρZ))→acc'.length<=i+1 →
     (compL g ti te (xs.drop (i+1)) ρZ acc' fun ys ρb=>∀a,af (.own a ys) (putAll fi (ρb.drop Nt.length) (unsAt fi Z2)))→∃m,m <n∧∃i σ' H' Z' acc,m+i=xs.length∧Inv B [] σ' H' sZ∧tn i sZ.heap∧(∀b∈fp,H' b=none)∧σ'.drop Nt.length=capSt fi σ ∧
     REnv X.K Pr H' (some (.ref D)::(σ++σ')) (.own D acc::(unsAt fi Z2++Z'))∧acc.length<=i∧compL g ti te (xs.drop i) Z' acc fun ys ρb=>∀a,af (.own a ys) (putAll fi (ρb.drop Nt.length) (unsAt fi Z2)):=fun {sZ HZ ρZ acc'} IZ EZ hz qZ=>by
    refine ⟨n - 1,zZ,i+1,σ9,HZ,ρZ,acc',zZ,IZ.unpinned,T.keep _ _ _ st8 fun b hb o e=>(IZ.pin (b,o) (ar _ (ar _ (mem_pinsAt hb e)))).1,fun b hb=>?_,dr9.trans dr6,EZ,hz,qZ⟩
    obtain ⟨o,e,d⟩:=T.obj _ _ st8 b hb
    exact (IZ.pin (b,o) (ar _ (ar _ (mem_pinsAt hb e)))).2.1
   cases ok with
   | false =>
    rw [if_neg aH] at qA ⊢
    exact again IA FA zZ qA
   | true =>
    rw [if_pos rfl] at qA ⊢
    have FAa:REnv X.K (butOwn HA ρA) HA σ9 ρA:=(REnv.drop (τ:=some (V.ref D)::σ) (lam:=L.own D acc::unsAt fi Z2) FA hτ).wide
    refine thn (hte _ _ _ _ _ sA σ9 HA _ ρA _ IA FAa qA) fun ux sB qB=>?_
    obtain ⟨vy,HB,y,ρB,IB,rB,EB,qB⟩:=EL.frz (X:=B) (af:=fun y Z3=>compL g ti te (xs.drop (i+1)) Z3 (acc++[y]) fun ys ρb=>∀a,af (.own a ys) (putAll fi (ρb.drop Nt.length) (unsAt fi Z2))) qB
    have FB:REnv X.K Pr HB (some vy::(some (V.ref D)::(σ++σ9))) (.d y::(L.own D acc::(unsAt fi Z2++ρB))):=REnv.step (τ:=some (V.ref D)::σ) (lam:=L.own D acc::unsAt fi Z2) (w:=[some vy]) (μ:=[.d y]) FA hτ EB rfl
    obtain ⟨_,e1,p1⟩:=FB.head_d
    cases e1
    have slB:=FB.tail.sl
    cases slB with
    | cons q0 _ =>
     obtain ⟨_,vs,hDB,rvs⟩:=q0
     refine thn (mt_append (X:=B) _ sB σ9 HB (.ref D) [vy] (.ref D) [ux] (fun z H'=>H'=upd HB D (.lst (vs++[vy]))) IB rfl (.cons rB .nil) ⟨D,vs,vy,rfl,rfl,hDB,by rw [rvs.length];omega,rfl⟩) fun _ sC ⟨z,HC,IC,_,eC⟩=>?_
     subst eC
     exact again IC (FB.tail.write (rvs.append (.cons p1 .nil))) (by simp;omega) qB
  .
   have e:i=xs.length:=by omega
   subst e
   refine thn (T.done B rfl rfl rfl hc xs.length [] s6 σ6 H6 (fun _ _=>False) I6 (stat fr6) st6 stop) fun r s7 ⟨hr,I7⟩=>?_
   subst hr
   rw [List.drop_length] at w6
   obtain ⟨m,hm,_⟩:=id I7.loc
   have I8:Inv X ab σ H6 s7:=I3.call' (ch:=fp) I7.os I7.base I7.hok I7.bare fun b hb=>⟨(f2 b hb).2.2.2.1,(f2 b hb).2.1,(f2 b hb).2.2.2.2.1,(f2 b hb).2.2.2.2.2⟩
   have f4:=I3.fpOk (H':=H6) (b:=s3.heap.objs.size) (ao _) I7.free
   .
    have hlen6:σ6.length=Z6.length:=(REnv.drop (τ:=some (V.ref D)::σ) (lam:=L.own D acc::unsAt fi Z2) E6 hτ).len
    have a1:REnv X.K Pr H6 (capSt fi σ++(σ++[some (V.ref D)])) (Z6.drop Nt.length++(unsAt fi Z2++[L.own D acc])):=by
     have hcd:(capSt fi σ).length=(Z6.drop Nt.length).length:=by rw [<- dr6,aU,aU,hlen6]
     refine E6.rearr (by simp [hcd,hul,hlen6]) ((σ6.take Nt.length).zip (Z6.take Nt.length)) ?_
     have l0:σ6.zip Z6=(σ6.take Nt.length).zip (Z6.take Nt.length)++(capSt fi σ).zip (Z6.drop Nt.length):=by
      rw [<- dr6,<- bf (by simp [hlen6]),List.take_append_drop,List.take_append_drop]
     have l1:(some (V.ref D)::(σ++σ6)).zip (L.own D acc::(unsAt fi Z2++Z6))=(some (V.ref D),L.own D acc)::(σ.zip (unsAt fi Z2)++σ6.zip Z6):=by rw [bN,bf hul]
     have l2:(capSt fi σ++(σ++[some (V.ref D)])).zip (Z6.drop Nt.length++(unsAt fi Z2++[L.own D acc]))=(capSt fi σ).zip (Z6.drop Nt.length)++(σ.zip (unsAt fi Z2)++[(some (V.ref D),L.own D acc)]):=by
      rw [bf hcd,bf hul];rfl
     rw [l1,l2,l0]
     generalize (capSt fi σ).zip (Z6.drop Nt.length)=z1
     generalize σ.zip (unsAt fi Z2)=z2
     generalize (σ6.take Nt.length).zip (Z6.take Nt.length)=z3
     have p1:((some (V.ref D),L.own D acc)::(z2++(z3++z1))).Perm ((z2++[(some (V.ref D),L.own D acc)])++(z3++z1)):=by
      rw [aV]
      exact List.perm_middle.symm
     refine p1.trans ?_
     have p2:((z2++[(some (V.ref D),L.own D acc)])++(z3++z1)).Perm ((z3++z1)++(z2++[(some (V.ref D),L.own D acc)])):=aX
     refine p2.trans ?_
     rw [aV]
     exact aX
    have a2:=REnv.backs (σ:=σ++[some (V.ref D)]) (cs:=Z6.drop Nt.length) (Z:=unsAt fi Z2++[L.own D acc]) fi hnd (by rw [aU,<- hlen6,<- aU,dr6];simp [capSt]) (fun j hj=>by
     rw [aE (by rw [unsAt_len];exact hjρ j hj)];exact unsAt_un fi Z2 j hj (hjρ j hj)) (fun j hj=>by have:=hjσ j hj;simp;omega) (by rw [capSt_app hjσ];exact a1)
    rw [putAll_app fun j hj=>by rw [unsAt_len];exact hjρ j hj] at a2
    have hpl:σ.length=(putAll fi (Z6.drop Nt.length) (unsAt fi Z2)).length:=by have:=a2.len;simpa using this
    refine hRR D s3.heap.objs.size s7 H6 acc (putAll fi (Z6.drop Nt.length) (unsAt fi Z2)) m I8 hm f4.1 f4.2.1 I3.sz f4.2.2.2.2.1 f4.2.2.2.2.2 (a2.rearr (by simp [hpl]) [] ?_) (w6 D)
    rw [bG,bf hpl,bN]
    exact aX (l₂:=[(some (V.ref D),L.own D acc)])
 exact codeAny_compStart_list (loop _ rfl) (T.self _ 0 _ _ _ (T.keep 0 _ _ st2 fun b hb o e=>old4 b o (old3 b o e)) (loop _ rfl))
theorem pl_comp{elt tg iter:Expr}{ifs:List Expr}{scope sc:Scope}{pos:Pos}{N Nt Nf:List Str}{fi:List Nat}{src:W (List D)}{g:Tg}{ti:W Bool}{te:W L}
  (hsc:X.env.scope=sc) (hXN:X.N=N) (hc:X.calm=true) (hi:PIL X tg iter src)
  (hkind:scope.kind=.function) (hnames:∀x∈scope.names,x.2=.local->scope.names.lookup x.1=some .local) (hcell:∀y∈scope.names,y.2≠.cell)
  (hfr:∀x∈scope.names,x.2=.free->sc.names.lookup x.1=some .cell∨sc.names.lookup x.1=some .free)
  (hnd:fi.Nodup) (hNf:Nf.map some=fi.map (λj=>N[j]?)) (hNk:∀x∈Nf,scope.names.lookup x=some .free) (hfl:∀j∈fi,j<N.length)
  (hg:∀cl s₀ H₀ fp,PTc (cxComp X scope cl (Nt++Nf) s₀ H₀ fp) tg Nt.length g) (hti:∀cl s₀ H₀ fp,PIf (cxComp X scope cl (Nt++Nf) s₀ H₀ fp) ifs ti) (hte:∀cl s₀ H₀ fp,PL (cxComp X scope cl (Nt++Nf) s₀ H₀ fp) elt te)
  (hs:∀x,foldedSetIterable iter X.env x=pure x:=by intro _;rfl):PL X (.ListComp elt [⟨tg,iter,ifs,0⟩] scope pos) (wComp Nt.length fi src g ti te):=by
 intro ab s σ H Pr Z af I E h;rw[eval_ListComp];refine comp_core (use:=none) hsc hXN hc hi hkind hnames hcell hfr hnd hNf hNk hfl hg hti hte I E h (λD C s7 H6 acc Z'' m I7 hm h1 h2 h3 h4 h5 E7 p=>?_) hs;exact⟨m,hm,λh' hsb=>⟨.ref D,H6,_,Z'',I7.turned (t':=s7.toks) (λb o hb e=>(hsb.2 b hb).trans e) h1 (Ne.symm (Ne.symm h2)) (.inr h3) h4 h5,rfl,E7,p⟩⟩
theorem pm_setC{elt tg iter:Expr}{ifs:List Expr}{scope sc:Scope}{pos spos py:Pos}{y:Str}{j:Nat}{N Nt Nf:List Str}{fi:List Nat}{src:W (List D)}{g:Tg}{ti:W Bool}{te:W L}
  (hN:X.N.Nodup) (hj:X.N[j]?=some y) (hy:Loc X.env.scope y)
  (hsc:X.env.scope=sc) (hXN:X.N=N) (hc:X.calm=true) (hi:PIL X tg iter src)
  (hkind:scope.kind=.function) (hnames:∀x∈scope.names,x.2=.local->scope.names.lookup x.1=some .local) (hcell:∀y∈scope.names,y.2≠.cell)
  (hfr:∀x∈scope.names,x.2=.free->sc.names.lookup x.1=some .cell∨sc.names.lookup x.1=some .free)
  (hnd:fi.Nodup) (hNf:Nf.map some=fi.map (λj=>N[j]?)) (hNk:∀x∈Nf,scope.names.lookup x=some .free) (hfl:∀j∈fi,j<N.length)
  (hg:∀cl s₀ H₀ fp,PTc (cxComp X scope cl (Nt++Nf) s₀ H₀ fp) tg Nt.length g) (hti:∀cl s₀ H₀ fp,PIf (cxComp X scope cl (Nt++Nf) s₀ H₀ fp) ifs ti) (hte:∀cl s₀ H₀ fp,PL (cxComp X scope cl (Nt++Nf) s₀ H₀ fp) elt te)
  (hsw:swapsWith (.ListComp elt [⟨tg,iter,ifs,0⟩] scope pos) (some (.Name y py)) spos.line X.env=pure true:=by rfl) (hf:X.fn y=true∨X.env.scope.names.lookup y=some .local:=by first|exact .inl rfl|exact .inr rfl|assumption)
  (hs:∀x,foldedSetIterable iter X.env x=pure x:=by intro _;rfl):PM X (.Assign [.Name y py] (.ListComp elt [⟨tg,iter,ifs,0⟩] scope pos) spos) (wSet j (wComp Nt.length fi src g ti te)):=by
 intro ab s σ H Pr Z af I E h;rw[exec_Assign_Name_used _ _ _ _ hsw];refine ak (wpAny_standAt (ak ?_))
 show wpAny _ X.A (do let _ <- comprehension (.ListComp elt [⟨tg,iter,ifs,0⟩] scope pos) scope X.env (firstIterPos [⟨tg,iter,ifs,0⟩] pos) (newList []) false (eval iter X.env) (some (assign (.Name y py) X.env))) _ _ s
 refine ak (thn (comp_core (use:=some (assign (.Name y py) X.env)) (Q:=λ_ s'=>SM X ab Pr af .next s') (af:=λr Z1=>af .nx (Z1.set j r)) hsc hXN hc hi hkind hnames hcell hfr hnd hNf hNk hfl hg hti hte I E h (λD C s7 H6 acc Z'' m I7 hm h1 h2 h3 h4 h5 E7 p=>?_) hs) λ_ s' hq=>aD (aD hq))
 show wpAny _ X.A (assign (.Name y py) X.env (.ref D)) _ _ _;refine wpAny_assign_Name (store_ok2 (v:=.ref D) I7 hN hj hy rfl (λs8 I8 ⟨a,sb,ha⟩=>?_) hf)
 have hCa:C≠a:=by
  rcases ha with z|z
  . rw[z];exact h2
  . exact λq=>h4 y a z q.symm
 refine⟨m,hm.sameBut sb hCa,λh' hsb=>⟨_,H6,_,I8.turned (t':=s8.toks) (λb o hb e=>(hsb.2 b hb).trans e) h1 h2 (.inr h3) h4 h5,E7.store (by rw[I7.len];exact(ah.mp hj).1),p⟩⟩
end
section
variable{X:Cx}{e a b:Expr}{x y:Str}
noncomputable def flatD:D->Bool
 |.non=>true | .bl _=>true | .int _=>true | .str _=>true
 |_=>false
noncomputable def eqF:D->D->Bool
 |.non,.non=>true
 |.bl a,.bl b=>a == b
 |.bl a,.int b=>(if a then 1 else 0) == b
 |.int a,.bl b=>a == (if b then 1 else 0)
 |.int a,.int b=>a == b
 |.str a,.str b=>a == b
 |_,_=>false
theorem flat_rep{K:PySem.W.Frag}{H:Hp}{v:V}{d:D}(r:Rep K H v d)(h:flatD d=true):flatV v=true:=by cases r<;>first|rfl|(exact absurd h (by simp[flatD]))
theorem eqF_eq{K:PySem.W.Frag}{H:Hp}{v w:V}{d f:D}(r:Rep K H v d)(q:Rep K H w f)(h:flatD d=true)(h':flatD f=true):eqV v w=eqF d f:=by cases r<;>cases q<;>first|rfl|(exact absurd h (by simp[flatD]))|(exact absurd h' (by simp[flatD]))
noncomputable def inF(x:D)(ys:List D):Bool:=ys.any λy=>eqF y x
theorem inF_eq{K:PySem.W.Frag}{H:Hp}{v:V}{x:D}(r:Rep K H v x)(h:flatD x=true):∀{vs:List V}{ys:List D},Reps K H vs ys->ys.all flatD=true->inV v vs=inF x ys/\vs.all flatV=true
 |_,_,.nil,_=>⟨rfl,rfl⟩
 | _,_,.cons r0 t,ha=>by rw[List.all_cons,aI]at ha;obtain⟨i1,i2⟩:=inF_eq r h t ha.2;unfold inV inF at i1 ⊢;rw[bU,bU,List.all_cons,i1,eqF_eq r0 r ha.1 h,flat_rep r0 ha.1,i2];exact⟨rfl,rfl⟩
def opInF(neg:Bool):Op2:=λx y k=>flatD x=true/\itemsOf y λys=>ys.all flatD=true/\k (.d (.bl (if neg then !inF x ys else inF x ys)))
theorem od_in:OpD X (compareOp .In) (opInF false):=OpD.of op_in_seq λσ H Pr Z x y dx dy af E px py ⟨hx,h⟩=>by
 cases py with
 | lst hz rs =>
  obtain⟨ha,h⟩:=h;obtain⟨i1,i2⟩:=inF_eq px hx rs ha;exact⟨_,_,rfl,.inl hz.l,flat_rep px hx,i2,_,E.cons_d (.bl _),by rw[i1];exact h⟩
 | tup hz rs =>
  obtain⟨ha,h⟩:=h;obtain⟨i1,i2⟩:=inF_eq px hx rs ha;exact⟨_,_,rfl,.inr hz,flat_rep px hx,i2,_,E.cons_d (.bl _),by rw[i1];exact h⟩
 |_=>exact h.elim
def PO'(X:Cx)(lo:Option Expr)(t:Option (W L)):Prop:=match lo,t with
 |none,none=>True
 |some e,some t=>PL X e t
 |_,_=>False
theorem cutV_reps{K:PySem.W.Frag}{H:Hp}{vs:List V}{xs:List D}(r:Reps K H vs xs)(l u:Option Int):Reps K H (cutV vs l u) (cutD xs l u):=by unfold cutV cutD;rw[r.length];exact(r.drop _).take _
noncomputable def tPO(K:PySem.W.Frag)(t:Option (W L)):TO:=λσ H Q=>∃Pr Z af,REnv K Pr H σ Z/\wPart t Z af/\∀i H' Z',REnv K Pr H' σ Z'->af i Z'->Q i H'
theorem po_of{lo:Option Expr}{t:Option (W L)}(h:PO' X lo t):PO X lo (tPO X.K t):=by
 cases lo with
 | none =>
  cases t with
  | none =>
   intro ab s σ H Q I ⟨Pr,Z,af,E,hw,q⟩;exact po_none ab s σ H Q I (q none H Z E hw)
  |some t=>exact h.elim
 | some e =>
  cases t with
  |none=>exact h.elim
  | some t =>
   intro ab s σ H Q I ⟨Pr,Z,af,E,hw,q⟩;refine po_some (PL.pe (show PL X e t from h)) ab s σ H Q I ⟨Pr,Z,_,E,hw,λv H' r Z' E' pp=>?_⟩;obtain⟨i,rfl,pp⟩:=toInt_is pp;obtain⟨_,e1,p1⟩:=E'.head_d;cases e1;cases p1;exact⟨i,rfl,q (some i) H' Z' E'.tail pp⟩
end
def selW{α:Type}(o:Option L)(t u:W α)(Z:Ev)(af:α->Ev->Prop):Prop:=match o with
 |some (.own _ _)=>t Z af
 |_=>u Z af
noncomputable def wIsOwn{α:Type}(i:Nat)(t u:W α):W α:=λZ af=>selW Z[i]? t u Z af
theorem selW_own{α:Type}(a:Addr)(xs:List D)(t u:W α)(Z:Ev)(af:α->Ev->Prop):selW (some (.own a xs)) t u Z af=t Z af:=(rfl)
theorem selW_d{α:Type}(x:D)(t u:W α)(Z:Ev)(af:α->Ev->Prop):selW (some (.d x)) t u Z af=u Z af:=(rfl)
theorem selW_bx{α:Type}(a:Option Addr)(ls:List L)(t u:W α)(Z:Ev)(af:α->Ev->Prop):selW (some (.bx a ls)) t u Z af=u Z af:=(rfl)
theorem pl_own{X:Cx}{e:Expr}{i:Nat}{t u:W L}(h:PL X e t)(h':PL X e u):PL X e (wIsOwn i t u):=λab s σ H Pr Z af I E q=>by
 unfold wIsOwn selW at q;split at q
 . exact h ab s σ H Pr Z af I E q
 . exact h' ab s σ H Pr Z af I E q
theorem kit_exc{K:PySem.W.Frag}{c:Str}{C:Addr}{T:String}(h:excStd K c C=true)(hm:PySem.W.kitMeta T=true):PySem.W.kitOne K (.ref C) (.type T)=some ((["ValueError","Exception","BaseException","object"]:List String).contains T):=by obtain⟨L,cd,S⟩:=excStd_is h;unfold PySem.W.kitOne PySem.W.kitCls;rw[if_neg (show ¬((Value.ref C == Value.type T)=true)from λz=>by cases z)];dsimp only;rw[if_pos hm];show PySem.W.mroIn K C (.type T)=_;rw[S.mroIn,xmro_type]
theorem kit_of{T:String}(h0:∀K d,(∀c ns xs,d≠.exc c ns xs)->PySem.W.kitOne K (tyD d) (.type T)=some (isTy T d))(hm:PySem.W.kitMeta T=true):∀K d t,TyD K d t->PySem.W.kitOne K t (.type T)=some (isTy T d):=by
 intro K d t h
 cases d with
 | exc c ns xs =>
  obtain⟨C,e,h⟩:=h;rw[e];exact kit_exc h hm
 |_=>cases h;exact h0 K _ (λ_ _ _ z=>nomatch z)
theorem kit_int:∀ K d t,TyD K d t->PySem.W.kitOne K t (.type "int")=some (isTy "int" d):=kit_of (λK d hd=>by cases d <;> first | rfl | exact absurd rfl (hd _ _ _)) zb
theorem kit_bool:∀ K d t,TyD K d t->PySem.W.kitOne K t (.type "bool")=some (isTy "bool" d):=kit_of (λK d hd=>by cases d <;> first | rfl | exact absurd rfl (hd _ _ _)) zb
theorem kit_str:∀ K d t,TyD K d t->PySem.W.kitOne K t (.type "str")=some (isTy "str" d):=kit_of (λK d hd=>by cases d <;> first | rfl | exact absurd rfl (hd _ _ _)) zb
theorem kit_tuple:∀ K d t,TyD K d t->PySem.W.kitOne K t (.type "tuple")=some (isTy "tuple" d):=kit_of (λK d hd=>by cases d <;> first | rfl | exact absurd rfl (hd _ _ _)) zb
def GlobT(K:PySem.W.Frag)(mg:Str->Option Value)(x:Str)(d:D):Prop:=∃v u,mg x=some u/\RelV v u/\∀H,Rep K H v d
theorem pl_G{X:Cx}{x:Str}{d:D}{pos:Pos}(g:GlobT X.K X.mg x d)(hg:Gl X x) (hdb:(x == ("__debug__" : Str))=false:=by decide):PL X (.Name x pos) (wC d):=by obtain⟨v,u,h1,h2,h3⟩:=g;exact pl_glob hg h1 h2 h3 hdb
theorem globS_mk{K:PySem.W.Frag}{mg:Str->Option Value}{x:Str}{s:Str}{t:Tok}(h1:mg x=some (.str s t)):GlobT K mg x (.str s):=⟨.str s,_,h1,⟨t,rfl⟩,λH=>.str s⟩
theorem globI_mk{K:PySem.W.Frag}{mg:Str->Option Value}{x:Str}{s:Int}{t:Tok}(h1:mg x=some (.int s t)):GlobT K mg x (.int s):=⟨.int s,_,h1,⟨t,rfl⟩,λH=>.int s⟩
theorem reps_ints{K:PySem.W.Frag}{H:Hp}:∀ns:List Int,Reps K H (ns.map V.int) (ns.map D.int)
 |[]=>.nil
 |n::ns=>.cons (.int n) (reps_ints ns)
theorem law_start{K:PySem.W.Frag}{H:Hp}{a:Addr}{ns:List Int}{fs:FS}{n:Nat}(hl:ns.length<=n)(hO:Only H)(hS:SqL K H a (ns.map V.int))(h:fs [.d (.lst (ns.map .int))] (λr _=>r=.d (.bl true))):spF K 1 fs [.ref a] H (λv _=>v=.bl true) λ_ _ _=>False:=by
 have hz:SqZ K H a (ns.map V.int):=by
  rcases hS with(h|⟨o,h⟩)|h
  .
   rcases hO a with z|⟨o,xs,z⟩|⟨q,z⟩
   . rw[z]at h;cases h
   . rw[z]at h;cases h
   . rw[z]at h;cases h
  . exact .inl ⟨o,h⟩
  . exact .inr h
 refine⟨rfl,λ_=>none,[.d (.lst (ns.map .int))],_,⟨(λb o e=>nomatch e),(show([]:List Addr).Nodup from List.nodup_nil),(λa h=>absurd (show a∈([]:List Addr)from h) zY),.cons ⟨.ref a,rfl,.lst hz (reps_ints ns)⟩ .nil⟩,h,λv H' r ls' E p=>?_⟩;subst p;obtain⟨_,e,r⟩:=E.head_d;cases e;cases r;rfl
section
variable{X:Cx}
def opIsN:Op2:=λx y k=>match y with
 |.non=>k (.d (.bl (match x with | .non=>true|_=>false)))
 |_=>False
theorem od_isN':OpD X (compareOp .Is) opIsN:=od_isN.imp λx y k h=>by
 unfold opIsN at h;split at h
 . exact⟨rfl,h⟩
 . exact h.elim
end
end L2
namespace L2
open PySem
noncomputable def frD(q:Rat):D:=.tup [.int q.num,.int (q.den:Int)]
theorem gcd_pos{t b:Int}(h:b≠0):0<Int.gcd t b:=Int.gcd_pos_of_ne_zero_right _ h
noncomputable def shareOf(t b:Int):Int:=if b<0 then -(Int.gcd t b:Int)else(Int.gcd t b:Int)
theorem fdiv_neg_of{a g:Int}(hg:g≠0)(h:g∣a):a.fdiv (-g)=-(a / g):=by obtain⟨k,rfl⟩:=h;rw[Int.mul_ediv_cancel_left _ hg,show g*k=(-g)*(-k) by rw[Int.neg_mul_neg],Int.mul_fdiv_cancel_left _ zZ]
theorem low_num{t b:Int}(h:b≠0):t.fdiv (shareOf t b)=(Rat.divInt t b).num:=by
 have hg:=gcd_pos (t:=t) h;have hd:(Int.gcd t b:Int)∣t:=Int.gcd_dvd_left t b;rw[Rat.num_divInt,Int.gcd_comm b t];unfold shareOf;split
 . rename_i hb;rw[fdiv_neg_of zZ hd,Int.sign_eq_neg_one_of_neg hb,Int.neg_one_mul,Int.neg_ediv_of_dvd hd]
 . rename_i hb;rw[Int.sign_eq_one_of_pos zZ,Int.one_mul,Int.fdiv_eq_ediv_of_nonneg _ zZ]
theorem den_le{t b:Int}(h:b≠0):(Rat.divInt t b).den<=b.natAbs:=by rw[Rat.den_divInt,if_neg h];exact Nat.div_le_self _ _
theorem num_le{t b:Int}(h:b≠0):(Rat.divInt t b).num.natAbs<=t.natAbs:=by rw[<- low_num h];exact PySem.natAbs_fdiv_le _ _
theorem den_pos(q:Rat):0<q.den:=Nat.pos_of_ne_zero q.den_nz
theorem add_eq(p q:Rat):Rat.divInt (p.num*(q.den:Int)+q.num*(p.den:Int)) ((p.den:Int)*(q.den:Int))=p+q:=by have hp:=den_pos p;have hq:=den_pos q;have:=Rat.divInt_add_divInt p.num q.num (d₁:=(p.den:Int)) (d₂:=(q.den:Int)) zZ zZ;rw[Rat.num_divInt_den,Rat.num_divInt_den]at this;exact this.symm
def RB(n:Nat)(q:Rat):Prop:=q.num.natAbs<2^n/\q.den<2^n
theorem RB.mono{m n:Nat}{q:Rat}(h:RB m q)(hl:m<=n):RB n q:=⟨aq h.1 (bt zd hl),aq h.2 (bt zd hl)⟩
theorem mul_lt_pow{a b m n:Nat}(h1:a<2^m)(h2:b<2^n):a*b<2^(m+n):=by rw[Nat.pow_add];exact Nat.mul_lt_mul'' h1 h2
theorem RB.add{m n:Nat}{p q:Rat}(hp:RB m p)(hq:RB n q):RB (m+n+1) (p+q):=by
 have dp:=den_pos p;have dq:=den_pos q;have hne:((p.den:Int)*(q.den:Int))≠0:=Int.mul_ne_zero zZ zZ;rw[<- add_eq p q];have a1:=mul_lt_pow hp.1 hq.2;have a2:=mul_lt_pow hq.1 hp.2;have a3:=mul_lt_pow hp.2 hq.2;have e:(2:Nat)^(m+n+1)=2^(m+n)+2^(m+n):=by rw[Nat.pow_succ];omega
 rw[Nat.add_comm n m]at a2;constructor
 . refine bC (num_le hne) ?_;refine bC (Int.natAbs_add_le _ _) ?_;rw[Int.natAbs_mul,Int.natAbs_mul,bM,bM,e];omega
 . refine bC (den_le hne) ?_;rw[Int.natAbs_mul,bM,bM,e];omega
@[simp] theorem eqD_int(i j:Int):eqD (.int i) (.int j)=decide (i=j):=by simp[eqD,toP,PyData.eqv];by_cases h:i=j<;>simp[h]
@[simp] theorem eqD_str(i j:Str):eqD (.str i) (.str j)=decide (i=j):=by simp[eqD,toP,PyData.eqv];by_cases h:i=j<;>simp[h]
@[simp] theorem eqD_bl(i j:Bool):eqD (.bl i) (.bl j)=decide (i=j):=by simp[eqD,toP,PyData.eqv];cases i<;>cases j<;>rfl
@[simp] theorem shapeD_int(i:Int):shapeD (.int i):=rfl
@[simp] theorem shapeD_bl(i:Bool):shapeD (.bl i):=rfl
@[simp] theorem shapeD_non:shapeD .non:=rfl
mutual
noncomputable def okD:Nat->D->Bool
 |_,.non=>true
 |_,.bl _=>true
 |_,.int _=>true
 |_,.str x=>PyData.strOk x
 |0,.tup _=>false
 |0,.lst _=>false
 |n+1,.tup xs=>okDs n xs
 |n+1,.lst xs=>okDs n xs
 |_,.dct _=>false
 |_,.exc _ _ _=>false
 |_,.fn _ _=>false
 |_,.dk _ _=>false
 |_,.gf _=>false
noncomputable def okDs:Nat->List D->Bool
 |_,[]=>true
 |n,x::xs=>okD n x && okDs n xs
end
mutual
theorem okD_lay:∀(n:Nat)(d:D),okD n d=true->(toP d).canLay0=true/\(toP d).depth<=n
 |_,.non,_=>⟨rfl,b7 _⟩
 |_,.bl _,_=>⟨rfl,b7 _⟩
 |_,.int _,_=>⟨rfl,b7 _⟩
 |_,.str x,h=>⟨by simpa[okD,toP,PyData.canLay0]using h,b7 _⟩
 |0,.tup _,h=>by simp[okD]at h
 |0,.lst _,h=>by simp[okD]at h
 | n+1,.tup xs,h=>by
  obtain⟨h1,h2⟩:=okDs_lay n xs (by simpa[okD]using h)
  exact⟨h1,Nat.succ_le_succ h2⟩
 | n+1,.lst xs,h=>by
  obtain⟨h1,h2⟩:=okDs_lay n xs (by simpa[okD]using h)
  exact⟨h1,Nat.succ_le_succ h2⟩
 |_,.dct _,h=>by simp[okD]at h
 |_,.exc _ _ _,h=>by simp[okD]at h
 |_,.fn _ _,h=>by simp[okD]at h
 |_,.dk _ _,h=>by simp[okD]at h
 |_,.gf _,h=>by simp[okD]at h
theorem okDs_lay:∀(n:Nat)(ds:List D),okDs n ds=true->PyData.canLayAll0 (toPs ds)=true/\PyData.depthAll (toPs ds)<=n
 |_,[],_=>⟨rfl,b7 _⟩
 | n,d::ds,h=>by
  have h':okD n d=true/\okDs n ds=true:=by simpa[okDs]using h
  obtain⟨a1,a2⟩:=okD_lay n d h'.1
  obtain⟨b1,b2⟩:=okDs_lay n ds h'.2
  exact⟨by simp[toPs,PyData.canLayAll0,a1,b1],by simp only[toPs,PyData.depthAll];omega⟩
end
theorem shape_ok{n:Nat}{d:D}(h:okD n d=true)(hn:n<=64):shapeD d:=by obtain⟨h1,h2⟩:=okD_lay n d h;unfold shapeD SeqAt.shaped;rw[h1,bz zZ];rfl
theorem eqD_tup(xs ys:List D):eqD (.tup xs) (.tup ys)=PyData.eqvAll (toPs xs) (toPs ys):=by simp[eqD,toP,PyData.eqv]
theorem eqD_lst(xs ys:List D):eqD (.lst xs) (.lst ys)=PyData.eqvAll (toPs xs) (toPs ys):=by simp[eqD,toP,PyData.eqv]
theorem eqDs_cons(x y:D)(xs ys:List D):PyData.eqvAll (toPs (x::xs)) (toPs (y::ys))=(eqD x y && PyData.eqvAll (toPs xs) (toPs ys)):=by simp[toPs,PyData.eqvAll,eqD]
theorem eqDs_nil:PyData.eqvAll (toPs []) (toPs [])=true:=by simp[toPs,PyData.eqvAll]
theorem eqD_refl{n:Nat}{d:D}(h:okD n d=true):eqD d d=true:=SeqAt.eqv_refl _ (okD_lay n d h).1
theorem shape_fr(q:Rat):shapeD (frD q):=shape_ok (n:=1) (by simp[frD,okD,okDs]) zd
theorem eqD_fr(p q:Rat):eqD (frD p) (frD q)=decide (p=q):=by
 unfold frD;rw[eqD_tup,eqDs_cons,eqDs_cons,eqDs_nil,eqD_int,eqD_int,Bool.and_true];by_cases h:p=q
 . subst h;simp
 .
  rw[aZ h];by_cases h1:p.num=q.num
  . have:¬((p.den:Int)=(q.den:Int)):=λe=>h (Rat.ext h1 zZ);simp[this]
  . simp[h1]
end L2
namespace L2
open PySem PySem.Spec PyProof.Rows
section
variable{X:Cx}{a b c:Expr}{pos p:Pos}{ta tb tc:W L}
def wChain(o o':Op2)(ta tb tc:W L):W L:=λZ af=>ta Z λr Z1=>toInt r λi=>tb Z1 λr Z2=>toInt r λj=>o (.int i) (.int j) λz=>isBl z λk=>if k=true then tc Z2 λr Z3=>toInt r λl=>o' (.int j) (.int l) λz=>af z Z3 else af (.d (.bl false)) Z2
def CmpI(X:Cx)(op:CmpOp)(o:Op2):Prop:=∃f:Int->Int->Bool,OpR X (compareOp op) (rI0 λi j=>.bl (f i j))/\∀i j k,o (.int i) (.int j) k->k (.d (.bl (f i j)))
theorem ci_lt:CmpI X .Lt opLt:=⟨_,op_lt,λ_ _ _ h=>h⟩
theorem ci_le:CmpI X .LtE opLe:=⟨_,op_le,λ_ _ _ h=>h⟩
theorem chain_te{op op':CmpOp}{o o':Op2}{f f':Int->Int->Bool}(h1:∀i j k,o (.int i) (.int j) k->k (.d (.bl (f i j))))(h2:∀i j k,o' (.int i) (.int j) k->k (.d (.bl (f' i j))))
  (σ:St) (H Pr:Hp) (Z:Ev) (af:L->Ev->Prop) (Q:VK) (hQ:∀v H' r Z',REnv X.K Pr H' (some v::σ) (r::Z')->af r Z'->Q v H') (E:REnv X.K Pr H σ Z) (h:wChain o o' ta tb tc Z af) :
  tChain (rI0 λi j=>.bl (f i j)) (rI0 λi j=>.bl (f' i j)) (tL X.K ta) (tL X.K tb) (tL X.K tc) σ H Q:=by
 refine⟨Pr,Z,_,E,h,λv H1 r Z1 E1 p=>?_⟩;obtain⟨i,rfl,p⟩:=toInt_is p;obtain⟨_,e1,r1⟩:=E1.head_d;cases e1;cases r1;refine⟨Pr,Z1,_,E1.tail,p,λv H2 r Z2 E2 p=>?_⟩;obtain⟨j,rfl,p⟩:=toInt_is p;obtain⟨_,e1,r1⟩:=E2.head_d;cases e1;cases r1;refine⟨i,j,rfl,rfl,f i j,rfl,?_⟩;have q:=h1 i j _ p
 cases hk:f i j with
 | false =>
  rw[hk]at q;exact hQ _ _ _ Z2 (E2.tail.cons_d (.bl false)) q
 | true =>
  rw[hk]at q;refine⟨Pr,Z2,_,E2.tail,q,λv H3 r Z3 E3 p=>?_⟩;obtain⟨l,rfl,p⟩:=toInt_is p;obtain⟨_,e1,r1⟩:=E3.head_d;cases e1;cases r1;exact⟨j,l,rfl,rfl,hQ _ _ _ Z3 (E3.tail.cons_d (.bl _)) (h2 j l _ p)⟩
theorem pl_chain{op op':CmpOp}{o o':Op2}(ho:CmpI X op o)(ho':CmpI X op' o')(ha:PL X a ta)(hb:PL X b tb)(hc:PL X c tc)(hm:lastMarks [op,op'] [b,c]=false:=by with_unfolding_all rfl) :
  PL X (.Compare a [op,op'] [b,c] pos) (wChain o o' ta tb tc):=by
 obtain⟨f,r1,h1⟩:=ho;obtain⟨f',r2,h2⟩:=ho';exact PL.of (pe_chain r1 r2 ha.pe hb.pe hc.pe hm) λσ H Pr Z af E h=>chain_te (op:=op) (op':=op') h1 h2 σ H Pr Z af _ (λv H' r Z' E' p=>⟨r,Z',E',p⟩) E h
theorem pb_chain{op op':CmpOp}{o o':Op2}(ho:CmpI X op o)(ho':CmpI X op' o')(ha:PL X a ta)(hb:PL X b tb)(hc:PL X c tc)(hm:lastMarks [op,op'] [b,c]=false:=by with_unfolding_all rfl) :
  PB X (.Compare a [op,op'] [b,c] pos) (wTest (wChain o o' ta tb tc)):=by
 obtain⟨f,r1,h1⟩:=ho;obtain⟨f',r2,h2⟩:=ho';intro ab s σ H Pr Z af I E h;refine thn (pt_chain r1 r2 ha.pe hb.pe hc.pe hm ab s σ H (λb H'=>∃Z',REnv X.K Pr H' σ Z'/\af b Z') I ?_) λb s1 ⟨H1,I1,Z1,E1,p1⟩=>⟨H1,Z1,I1,E1,p1⟩;refine chain_te (op:=op) (op':=op') h1 h2 σ H Pr Z (λr Z1=>isBl r λb=>af b Z1) _ (λv H' r Z' E' p=>?_) E h;obtain⟨b,rfl,p⟩:=isBl_is p;obtain⟨_,e1,r1⟩:=E'.head_d;cases e1;cases r1;exact⟨b,rfl,Z',E'.tail,p⟩
end
end L2
namespace L2
open PySem PySem.Spec PyProof.Rows PySem.Builtin.Str
section
variable{X:Cx}{a:Expr}{pos p2:Pos}{ta:W L}{x:Str}
theorem sl_str:SlR X (λx lo hi H Q=>∃z,x=.str z/\z.length<=sizeLine/\Q (.str (Txt.slice z lo hi)) H):=by
 intro ab s σ H x v vl vu lo hi sl Q I rx hs pl pu h;obtain⟨z,rfl,hz,q⟩:=h;obtain⟨t,rfl⟩:=rx;refine⟨"str",_,F.slot_str_getitem.lookup,typeIs_str _ _ _,?_⟩
 obtain⟨l',rfl,rfl⟩:∃l':Option (Int×Tok),vl=partValue l'/\lo=l'.map (·.1):=by
  cases pl
  . exact⟨none,rfl,rfl⟩
  . exact⟨some (_,_),rfl,rfl⟩
 obtain⟨u',rfl,rfl⟩:∃l':Option (Int×Tok),vu=partValue l'/\hi=l'.map (·.1):=by
  cases pu
  . exact⟨none,rfl,rfl⟩
  . exact⟨some (_,_),rfl,rfl⟩
 exact wpAny_getItem_str_slice (l:=l') (u:=u') (st:=none) hs rfl (post_val_or_str ⟨aY (Txt.slice_le z _ _) hz,λt' k=>⟨.str _,H,I.tok k,⟨t',rfl⟩,q⟩⟩)
def wSl2(ta:W L)(lo hi:Option (W L)):W L:=λZ af=>ta Z λr Z1=>toD r λd=>wPart lo Z1 λl Z2=>wPart hi Z2 λu Z3=>match d with
 |.lst xs=>∀a,af (.own a (cutD xs l u)) Z3
 |.str z=>z.length<=sizeLine/\af (.d (.str (Txt.slice z l u))) Z3
 |.tup xs=>¬(HT.sIx xs.length 0 l=0/\HT.sIx xs.length xs.length u=xs.length)/\af (.d (.tup (cutD xs l u))) Z3
 |_=>False
theorem pl_slice2{lo hi:Option Expr}{tl th:Option (W L)}(ha:PL X a ta)(hl:PO' X lo tl)(hh:PO' X hi th):PL X (.Subscript a (.Slice lo hi none p2) pos) (wSl2 ta tl th):=by
 refine PL.of (pe_slice (SlR.or sl_list (SlR.or sl_str sl_tup)) (pl_frz ha).pe (po_of hl) (po_of hh)) λσ H Pr Z af E h=>?_
 refine⟨Pr,Z,λr Z1=>match r with
  | .d d=>wPart tl Z1 λl Z2=>wPart th Z2 λu Z3=>match d with
   |.lst xs=>∀a,af (.own a (cutD xs l u)) Z3
   |.str z=>z.length<=sizeLine/\af (.d (.str (Txt.slice z l u))) Z3
   |.tup xs=>¬(HT.sIx xs.length 0 l=0/\HT.sIx xs.length xs.length u=xs.length)/\af (.d (.tup (cutD xs l u))) Z3
   |_=>False
  |_=>False,E,h,λv H1 r Z1 E1 pp=>?_⟩
 cases r with
 | d d =>
  obtain⟨_,e1,p1⟩:=E1.head_d;cases e1;refine⟨butOwn H1 Z1,Z1,_,E1.tail.wide,pp,λl H2 Z2 E2 pp=>?_⟩;have F2:REnv X.K Pr H2 (some v::σ) (.d d::Z2):=REnv.step (τ:=[some v]) (lam:=[.d d]) (w:=[]) (μ:=[]) E1 rfl E2 rfl;refine⟨butOwn H2 Z2,Z2,_,F2.tail.wide,pp,λu H3 Z3 E3 pp=>?_⟩;have F3:REnv X.K Pr H3 (some v::σ) (.d d::Z3):=REnv.step (τ:=[some v]) (lam:=[.d d]) (w:=[]) (μ:=[]) F2 rfl E3 rfl;obtain⟨_,e1,p1⟩:=F3.head_d;cases e1
  cases p1 with
  |lst hz rs=>exact .inl ⟨_,_,rfl,hz.l,λq hq=>⟨_,_,F3.tail.cons_own hq (cutV_reps rs l u),pp q⟩⟩
  |str z=>exact .inr (.inl ⟨z,rfl,pp.1,_,_,F3.tail.cons_d (.str _),pp.2⟩)
  |tup hz rs=>exact .inr (.inr ⟨_,_,rfl,hz,by rw[rs.length];exact pp.1,λq hq=>⟨_,_,F3.tail.cons_tup hq (cutV_reps rs l u),pp.2⟩⟩)
  |_=>exact pp.elim
 |_=>exact pp.elim
def rJoin(K:PySem.W.Frag):V->List V->Hp->VK->Prop:=λx vs H Q=>∃z a ys zs,x=.str z/\vs=[.ref a]/\(SqL K H a ys∨SqT K H a ys)/\ys=zs.map V.str/\(zs.map (·.length)).sum+zs.length*z.length<=16777216/\Q (.str (Txt.join z zs)) H
theorem vals_strs:∀{zs:List Str}{us:List Value},Vals (zs.map V.str) us->StrsAre us zs
 |[],_,.nil=>.nil
 | z::zs,_,.cons r t=>by obtain⟨t',rfl⟩:=r;exact .cons z t' (vals_strs t)
theorem mt_join:MtR X "str.join" (rJoin X.K):=by
 intro ab s σ H x vs v us Q I rx rv h;obtain⟨z,a,ys,zs,rfl,rfl,hq,rfl,hz,q⟩:=h;obtain⟨t,rfl⟩:=rx;obtain⟨u,rfl,ru⟩:=rv.one;cases ru;rcases hq with hq|hq
 . obtain⟨its,r,pl,_⟩:=I.list hq;exact join_list pl.isList (by simpa using vals_strs r) hz λt' k=>⟨.str _,H,I.tok k,⟨t',rfl⟩,q⟩
 . obtain⟨its,r,pl,_⟩:=I.tuple hq;exact join_tuple pl (by simpa using vals_strs r) hz λt' k=>⟨.str _,H,I.tok k,⟨t',rfl⟩,q⟩
end
section
variable{X:Cx}{e b c:Expr}{es:List Expr}{p apos cpos:Pos}{te:W L}{x:Str}
def wJoin(z:Str)(te:W L):W L:=λZ af=>te Z λr Z1=>toD r λd=>itemsOf d λxs=>∃zs,xs=zs.map D.str/\(zs.map (·.length)).sum+zs.length*z.length<=16777216/\af (.d (.str (Txt.join z zs))) Z1
theorem reps_strs{K:PySem.W.Frag}{H:Hp}:∀{zs:List Str}{vs:List V},Reps K H vs (zs.map D.str)->vs=zs.map V.str
 |[],_,.nil=>rfl
 | z::zs,_,.cons r t=>by cases r;rw[reps_strs t];rfl
theorem pl_join{z:Str}{j:Nat}{pz:Pos}(he:PL X e te)(hs1:starEach [e] X.env=[(false,eval e X.env)]:=by rfl) (hbase:attributeBase (.Constant (.str z) j pz) "join" X.env (eval (.Constant (.str z) j pz) X.env)=eval (.Constant (.str z) j pz) X.env:=by rfl)
  (hfew:((backTo cpos (starEach [e] X.env)).all (λx=>!x.1) && (backToKw cpos (keywordEach [] X.env)).all (λx=>x.1.isSome)
   && decide (([e]).length+([]:List Keyword).length+(if([]:List Keyword).isEmpty then 0 else 1)<30))=true:=by rfl)
  (hline:(apos.endLine == cpos.line)=true:=by rfl) (hplain:(backTo cpos (starEach ([]:List Expr) X.env)).any (·.1)=false:=by rfl) :
  PL X (.Call (.Attribute (.Constant (.str z) j pz) "join" apos) [e] [] cpos) (wJoin z te):=by
 refine PL.of (pe_bm bK PySem.F.slot_str_join PySem.F.type_str_join mt_join pe_str (pa_cons (pl_frz he).pe pa_nil hs1) (hbase:=hbase) (hfew:=hfew) (hline:=hline) (hs:=hs1) (hplain:=hplain)) λσ H Pr Z af E h=>?_
 refine⟨rfl,Pr,Z,λr Z1=>match r with
  |.d d=>itemsOf d λxs=>∃zs,xs=zs.map D.str/\(zs.map (·.length)).sum+zs.length*z.length<=16777216/\af (.d (.str (Txt.join z zs))) Z1
  |_=>False,E,h,λv H' r Z' E' pp=>?_⟩
 cases r with
 | d d =>
  obtain⟨_,e1,p1⟩:=E'.head_d;cases e1
  cases p1 with
  | lst hz rs =>
   obtain⟨zs,rfl,hl,pp⟩:=pp;exact⟨z,_,_,zs,rfl,rfl,.inl hz.l,reps_strs rs,hl,_,_,E'.tail.cons_d (.str _),pp⟩
  | tup hz rs =>
   obtain⟨zs,rfl,hl,pp⟩:=pp;exact⟨z,_,_,zs,rfl,rfl,.inr hz,reps_strs rs,hl,_,_,E'.tail.cons_d (.str _),pp⟩
  |_=>exact pp.elim
 |_=>exact pp.elim
theorem Inv.turnedL{ab:List (Addr×Obj)}{σ:St}{H:Hp}{s:Shared}{h':Heap}{t':Nat}{fp:List Addr}(I:Inv X ab σ H s)(k:∀b o,b∉fp->s.heap.get? b=some o->h'.get? b=some o)(hf:∀b∈fp,FpOk X ab H b):Inv X ab σ H {s with heap:=h',toks:=t' }:=by
 have nit:∀b u,H b=some u->b∉fp:=λb u e z=>by rw[(hf b z).1]at e;cases e
 refine I.step (g':=s.gens) (d':=s.drawn) (ch:=fp) (λb hb=>?_) (λb o _ _ hc e _=>k b o hc e) (λb o _ _ hc e _=>⟨o.slots,k b o hc e⟩) (λ_ _ _ _ n=>n)
  (λb o hc e=>⟨o,k b o hc e⟩) (λ_ _ e=>e) (λ_ _ _ e=>e) (λ_ _ e=>e) (λm hm=>?_) (λb u e=>?_) I.bare
 . obtain⟨f0,f1,f2,f3,f4,f5⟩:=hf b hb;exact⟨f3,f1,f4,f5⟩
 . obtain⟨o,es,ep,ho,r⟩:=hm;exact⟨o,es,ep,k _ o (λz=>(hf _ z).2.1 rfl) ho,r⟩
 .
  refine(I.hok b u e).stay (λc v hc q=>k c v ?_ q) (λ_ q=>q) (λ_ _ q=>q) λ_ _ _ _ q=>q;rcases hc with z|z
  . rw[z];exact nit b u e
  . exact nit c _ z
noncomputable def enumD(xs:List D):List D:=xs.zipIdx.map λp=>.tup [.int (p.2:Int),p.1]
end
section
variable{X:Cx}{e a b:Expr}{p apos cpos:Pos}{x y:Str}
def wPop(i:Nat):W L:=λZ af=>ownV i Z λa xs=>∃y,xs[xs.length-1]?=some y/\af (.d y) (Z.set i (.own a xs.dropLast))
theorem Reps.dropLast{K:PySem.W.Frag}{H:Hp}:∀{vs:List V}{ds:List D},Reps K H vs ds->Reps K H vs.dropLast ds.dropLast
 |_,_,.nil=>.nil
 |_,_,.cons r .nil=>.nil
 |_,_,.cons r (.cons q t)=>.cons r (Reps.dropLast (.cons q t))
theorem pl_pop(i:Nat)(hN:X.N[i]?=some x:=by rfl)(hv:Vis X.env.scope x:=by first | exact Or.inl rfl | exact Or.inr (Or.inl rfl) | exact Or.inr (Or.inr rfl)) (hd:(x == ("__debug__" : Str))=false:=by decide)
  (hcd:(x == ("__classdict__" : Str))=false:=by decide) (hbase:attributeBase (.Name x p) "pop" X.env (eval (.Name x p) X.env)=eval (.Name x p) X.env:=by rfl)
  (hline:(apos.endLine == cpos.line)=true:=by rfl) :
  PL X (.Call (.Attribute (.Name x p) "pop" apos) [] [] cpos) (wPop i):=by
 refine PL.of (pe_bm0 PySem.F.plainAttrs_list PySem.F.slot_list_pop PySem.F.type_list_pop mt_pop (pe_var hN hv hd hcd) (hbase:=hbase) (hline:=hline)) λσ H Pr Z af E h=>?_;obtain⟨l,xs,q,y,hy,h⟩:=ownV_is h;obtain⟨hσ,vs,hl,r⟩:=E.ownAt q;obtain⟨v,hv',rv⟩:=r.get hy;have E2:=E.updOwn q r.dropLast;refine⟨.ref l,hσ,.inl ⟨rfl,vs,SqL.of hl⟩,l,vs,v,rfl,rfl,hl,by rw[r.length];exact hv',_,_,E2.cons_d (rv.pres λb u hp e=>?_),h⟩;by_cases hb:b=l
 . subst hb;rw[hl]at e;cases e;exact hp.elim
 . rw[upd_ne hb];exact e
end
end L2
namespace L2
open PySem PySem.Spec PyProof.Rows
mutual
noncomputable def noL:D->Bool
 |.lst _=>false
 |.dct _=>false
 |.exc _ _ _=>false
 |.fn _ _=>false
 |.dk _ _=>false
 |.gf _=>false
 |.tup xs=>noLs xs
 |_=>true
noncomputable def noLs:List D->Bool
 |[]=>true
 |x::xs=>noL x && noLs xs
end
mutual
noncomputable def noLr:L->Bool
 |.un=>true
 |.d x=>noL x
 |.own _ xs=>noLs xs
 |.bx _ ls=>noLrs ls
 |.dic _ kvs=>kvs.all λp=>noL p.2
noncomputable def noLrs:List L->Bool
 |[]=>true
 |l::ls=>noLr l && noLrs ls
end
theorem noLr_un:noLr .un=true:=by simp[noLr]
theorem noLr_d(x:D):noLr (.d x)=noL x:=by simp[noLr]
theorem noLr_own(a:Addr)(xs:List D):noLr (.own a xs)=noLs xs:=by simp[noLr]
theorem noLr_bx(a:Option Addr)(ls:List L):noLr (.bx a ls)=noLrs ls:=by simp[noLr]
theorem noLr_dic(a:Addr)(kvs:List (Key×D)):noLr (.dic a kvs)=kvs.all λp=>noL p.2:=by simp[noLr]
theorem noLrs_nil:noLrs []=true:=by simp[noLrs]
theorem noLrs_cons(l:L)(ls:List L):noLrs (l::ls)=(noLr l && noLrs ls):=by simp[noLrs]
section
variable{X:Cx}{ab:List (Addr×Obj)}{σ:St}{H:Hp}{s:Shared}
theorem Inv.thaw{a:Addr}{o:Obj}{xs:List V}(I:Inv X ab σ H s)(h:H a=some (.frz o (.lst xs)))(h0:∀o u,X.H₀ a≠some (.frz o u)):Inv X ab σ (upd H a (.lst xs)) s:=by
 have ne:∀b,H b=none->b≠a:=λb n e=>by subst e;rw[h]at n;cases n
 have nt:∀b xs,H b=some (.tup xs)->b≠a:=λb xs n e=>by subst e;rw[h]at n;cases n
 have no:∀b z,H b=some (.own z)->b≠a:=λb z n e=>by subst e;rw[h]at n;cases n
 have nf:∀b o,H b=some (.frz o (.own b))->b≠a:=λb o n e=>by subst e;rw[h]at n;cases n
 have nw:=(I.hok a _ h).2;refine⟨I.ok,I.os,I.bare,⟨I.base.keep,I.base.slot,λb ob e n hx=>?_,I.base.there,λb xs e=>?_,λb ob z e=>?_,λb ps e=>?_⟩,I.loc,I.cell,?_,λx c e=>?_,λp hp=>?_,λb z e=>?_,I.len⟩
 . have q:=I.base.free b ob e n hx;rw[upd_ne (ne b q)];exact q
 . have q:=I.base.tups b xs e;rw[upd_ne (nt b xs q)];exact q
 . have q:=I.base.frzs b ob z e;rw[upd_ne (λy=>by subst y;exact h0 _ _ e)];exact q
 . have q:=I.base.tbls b ps e;rw[upd_ne (λz=>by subst z;rw[h]at q;cases q)];exact q
 . rw[upd_ne (ne _ I.free)];exact I.free
 .
  rcases I.freeC x c e with z|⟨hf,o,z⟩
  . exact .inl (by rw[upd_ne (ne _ z)];exact z)
  . exact .inr ⟨hf,o,by rw[upd_ne (nf _ _ z)];exact z⟩
 . obtain⟨e,n,r⟩:=I.pin p hp;exact⟨e,by rw[upd_ne (ne _ n)];exact n,r⟩
 .
  by_cases hb:b=a
  . subst hb;rw[upd_same]at e;cases e;exact nw.stay (λc v _ q=>q) (λc q=>by rw[upd_ne (no c _ q)];exact q) (λc xs q=>by rw[upd_ne (nt c xs q)];exact q) λc ob _ _ q=>by rw[upd_ne (nf c ob q)];exact q
  . rw[upd_ne hb]at e;exact(I.hok b z e).stay (λc v _ q=>q) (λc q=>by rw[upd_ne (no c _ q)];exact q) (λc xs q=>by rw[upd_ne (nt c xs q)];exact q) λc ob _ _ q=>by rw[upd_ne (nf c ob q)];exact q
end
def Thawed(H' H2:Hp)(S:List Addr):Prop:=(∀b,b∉S->H2 b=H' b)/\(∀a∈S,∃o vs,H' a=some (.frz o (.lst vs))/\H2 a=some (.lst vs))
theorem thawAll{X:Cx}{ab:List (Addr×Obj)}{σ:St}{s:Shared}:∀(S:List Addr){H:Hp},S.Nodup->Inv X ab σ H s->(∀a∈S,∃o vs,H a=some (.frz o (.lst vs)))->(∀a∈S,∀o u,X.H₀ a≠some (.frz o u))->∃H2,Inv X ab σ H2 s/\Thawed H H2 S
 |[],H,_,I,_,_=>⟨H,I,λ_ _=>rfl,λ_ h=>by simp at h⟩
 | a::S,H,nd,I,h,h0=>by
  obtain⟨na,nd⟩:=aO.mp nd;obtain⟨o,vs,ea⟩:=h a ai;have I1:=I.thaw ea (h0 a ai)
  obtain⟨H2,I2,T1,T2⟩:=thawAll S nd I1 (λb hb=>by
   obtain⟨o,us,e⟩:=h b (ag _ hb)
   exact⟨o,us,by rw[upd_ne (λz:b=a=>na (by rw[<- z];exact hb))];exact e⟩) λb hb=>h0 b (ag _ hb)
  refine⟨H2,I2,λb hb=>?_,λb hb=>?_⟩
  . rw[T1 b (λz=>hb (ag _ z)),upd_ne (λz:b=a=>hb (by rw[z];exact ai))]
  .
   rcases az.mp hb with rfl|hb
   . exact⟨o,vs,ea,by rw[T1 b na,upd_same]⟩
   . obtain⟨o',us,e1,e2⟩:=T2 b hb;rw[upd_ne (λz:b=a=>na (by rw[<- z];exact hb))]at e1;exact⟨o',us,e1,e2⟩
section
variable{K:PySem.W.Frag}{H' H2:Hp}{S:List Addr}
mutual
theorem Rep.thaw(T:Thawed H' H2 S):∀{v:V}{d:D},noL d=true->Rep K H' v d->Rep K H2 v d
 |_,_,_,.non=>.non
 |_,_,_,.bl b=>.bl b
 |_,_,_,.int i=>.int i
 |_,_,_,.str x=>.str x
 | _,_,h,.tup hs r=>by
  refine .tup ?_ (Reps.thaw T (by simpa[noL]using h) r)
  rcases hs with(e|⟨u,e⟩)|e
  .
   exact .inl (.inl (by rw[T.1 _ λz=>by obtain⟨o,vs,e1,_⟩:=T.2 _ z;rw[e1]at e;cases e];exact e))
  .
   exact .inl (.inr ⟨u,by rw[T.1 _ λz=>by obtain⟨o,vs,e1,_⟩:=T.2 _ z;rw[e1]at e;cases e];exact e⟩)
  .
   exact .inr e
 |_,_,h,.lst hs r=>by simp[noL]at h
 |_,_,h,.dct e=>by simp[noL]at h
 |_,_,h,.exc _ _ _ _ _ _ _ _=>by simp[noL]at h
 |_,_,h,.fn _ _ _ _ _ _ _ _ _=>by simp[noL]at h
 |_,_,h,.dk _ _=>by simp[noL]at h
 |_,_,h,.gf _ _ _=>by simp[noL]at h
theorem Reps.thaw(T:Thawed H' H2 S):∀{vs:List V}{ds:List D},noLs ds=true->Reps K H' vs ds->Reps K H2 vs ds
 |_,_,_,.nil=>.nil
 | _,_,h,.cons r t=>by
  simp only[noLs,aI]at h
  exact .cons (Rep.thaw T h.1 r) (Reps.thaw T h.2 t)
end
theorem Thawed.lst(T:Thawed H' H2 S){a:Addr}{vs:List V}(h:H' a=some (.lst vs)):a∉S/\H2 a=some (.lst vs):=by
 have n:a∉S:=λz=>by obtain⟨o,us,e,_⟩:=T.2 a z;rw[h]at e;cases e
 exact⟨n,(T.1 a n).trans h⟩
theorem Thawed.tup(T:Thawed H' H2 S){a:Addr}{vs:List V}(h:SqT K H' a vs):SqT K H2 a vs:=by
 rcases h with(e|⟨u,e⟩)|e
 . exact .inl (.inl (by rw[T.1 _ λz=>by obtain⟨o,vs,e1,_⟩:=T.2 _ z;rw[e1]at e;cases e];exact e))
 . exact .inl (.inr ⟨u,by rw[T.1 _ λz=>by obtain⟨o,vs,e1,_⟩:=T.2 _ z;rw[e1]at e;cases e];exact e⟩)
 . exact .inr e
mutual
theorem Slot1.thaw(T:Thawed H' H2 S):∀{s:Option V}(l:L),noLr l=true->Slot1 K H' s l->Slot1 K H2 s l
 |_,.un,_,_=>by unfold Slot1;exact True.intro
 | _,.d x,h,q=>by
  unfold Slot1 at q ⊢
  obtain⟨v,e,r⟩:=q
  exact⟨v,e,r.thaw T (by simpa[noLr]using h)⟩
 | _,.own a xs,h,q=>by
  unfold Slot1 at q ⊢
  obtain⟨e,vs,ha,r⟩:=q
  exact⟨e,vs,(T.lst ha).2,r.thaw T (by simpa[noLr]using h)⟩
 | _,.bx none ls,h,q=>by
  unfold Slot1 at q ⊢
  obtain⟨a,vs,e,ha,r⟩:=q
  exact⟨a,vs,e,T.tup ha,Slots.thaw T ls (by simpa[noLr]using h) r⟩
 | _,.bx (some a) ls,h,q=>by
  unfold Slot1 at q ⊢
  obtain⟨e,vs,ha,r⟩:=q
  exact⟨e,vs,(T.lst ha).2,Slots.thaw T ls (by simpa[noLr]using h) r⟩
 | _,.dic a kvs,h,q=>by
  unfold Slot1 at q ⊢
  obtain⟨e,vs,ha,r⟩:=q
  have h':∀p∈kvs,noL p.2=true:=by simpa[noLr]using h
  refine⟨e,vs,?_,Paired.impMem r λp hp q z=>⟨z.1,z.2.thaw T (h' p hp)⟩⟩
  rw[T.1 a λz=>by obtain⟨o,us,e1,_⟩:=T.2 _ z;rw[e1]at ha;cases ha]
  exact ha
theorem Slots.thaw(T:Thawed H' H2 S):∀{vs:List V}(ls:List L),noLrs ls=true->Slots K H' vs ls->Slots K H2 vs ls
 |_,[],_,q=>by unfold Slots at q ⊢;exact q
 | _,l::ls,h,q=>by
  unfold Slots at q ⊢
  simp only[noLrs,aI]at h
  obtain⟨v,us,e,h1,h2⟩:=q
  exact⟨v,us,e,Slot1.thaw T l h.1 h1,Slots.thaw T ls h.2 h2⟩
end
end
noncomputable def flatL:L->Bool
 |.d _=>true
 |l=>noLr l
theorem flatL_un:flatL .un=true:=by simp[flatL,noLr]
theorem flatL_d(x:D):flatL (.d x)=true:=rfl
theorem flatL_own(a:Addr)(xs:List D):flatL (.own a xs)=noLs xs:=by simp[flatL,noLr]
theorem flatL_dic(a:Addr)(kvs:List (Key×D)):flatL (.dic a kvs)=kvs.all λp=>noL p.2:=by simp[flatL,noLr]
theorem flatL_bx(a:Option Addr)(ls:List L):flatL (.bx a ls)=noLrs ls:=by simp[flatL,noLr]
noncomputable def flatOwn(i:Nat)(Z:Ev):Bool:=(Z.set i .un).all flatL
theorem slots_thaw{K:PySem.W.Frag}{H0 H' H2:Hp}{S:List Addr}(T:Thawed H' H2 S)(p:Pres H0 H2):∀{σ:St}{Z Z0:Ev},Z.length=Z0.length ->
  (∀(j:Nat)(l:L),Z[j]?=some l->noLr l=true∨∃x,l=.d x/\Z0[j]?=some (.d x))->Paired (Slot1 K H0) σ Z0->Paired (Slot1 K H') σ Z->Paired (Slot1 K H2) σ Z
 |[],[],_,_,_,_,_=>.nil
 | s::σ,l::Z,l0::Z0,hl,h,.cons q0 t0,.cons q t=>by
  refine .cons ?_ (slots_thaw T p (by simpa using hl) (λj l e=>h (j+1) l e) t0 t);rcases h 0 l rfl with hh|⟨x,rfl,e⟩
  . exact q.thaw T l hh
  .
   have e:l0=.d x:=by simpa using e
   subst e;exact q0.pres p (.d x) λa ha=>by simp[ownsL]at ha
 |[],_::_,_,_,_,_,t=>nomatch t
 |_::_,[],_,_,_,_,t=>nomatch t
mutual
theorem Slot1.lsts{K:PySem.W.Frag}{H:Hp}:∀{s:Option V}(l:L){x:D},Slot1 K H s l->eraseL l=some x->∀a∈ownsL l,∃vs,H a=some (.lst vs)
 |_,.un,_,_,_,a,ha=>by simp[ownsL]at ha
 |_,.d x,_,_,_,a,ha=>by simp[ownsL]at ha
 |_,.dic _ _,_,_,h,_,_=>by simp[eraseL]at h
 | _,.own b xs,_,h,_,a,ha=>by
  simp only[Slot1]at h
  have e:a=b:=by simpa[ownsL]using ha
  subst e
  obtain⟨_,vs,q,_⟩:=h
  exact⟨_,q⟩
 | _,.bx none ls,_,h,hx,a,ha=>by
  simp only[Slot1]at h
  simp only[eraseL,Option.map_eq_some_iff]at hx
  obtain⟨xs,hx,_⟩:=hx
  obtain⟨b,vs,e,_,r⟩:=h
  exact Slots.lsts ls r hx a (by simpa[ownsL]using ha)
 | _,.bx (some b) ls,_,h,hx,a,ha=>by
  simp only[Slot1]at h
  simp only[eraseL,Option.map_eq_some_iff]at hx
  obtain⟨xs,hx,_⟩:=hx
  obtain⟨e,vs,q,r⟩:=h
  rcases(by simpa[ownsL]using ha:a=b∨a∈ownsLs ls)with z|z
  .
   subst z;exact⟨_,q⟩
  .
   exact Slots.lsts ls r hx a z
theorem Slots.lsts{K:PySem.W.Frag}{H:Hp}:∀{vs:List V}(ls:List L){xs:List D},Slots K H vs ls->eraseLs ls=some xs->∀a∈ownsLs ls,∃vs,H a=some (.lst vs)
 |_,[],_,_,_,a,ha=>by simp[ownsLs]at ha
 | _,l::ls,_,h,hx,a,ha=>by
  simp only[Slots]at h
  obtain⟨v,us,e,h1,h2⟩:=h
  simp only[eraseLs]at hx
  split at hx
  .
   rename_i x1 xs1 e1 e2
   rcases(by simpa[ownsLs]using ha:a∈ownsL l∨a∈ownsLs ls)with z|z
   .
    exact Slot1.lsts l h1 e1 a z
   .
    exact Slots.lsts ls h2 e2 a z
  .
   cases hx
end
theorem peek_core{X:Cx}{ab:List (Addr×Obj)}{σ0:St}{s s1:Shared}{Pr H H1 H':Hp}{σ τ:St}{Z lam:Ev}{i:Nat}{k:L}{x:D}{v:Option V}(I:Inv X ab σ0 H s)(E:REnv X.K Pr H σ Z)(hi:Z[i]?=some k)(hSa:∀a∈ownsL k,∃vs,H a=some (.lst vs))(F:Frozen H H1 (ownsL k))(hfl:flatOwn i Z=true)
  (I':Inv X ab σ0 H' s1) (E1:REnv X.K Pr H1 σ (Z.set i (.d x))) (E':REnv X.K (butOwn H1 (Z.set i (.d x))) H' (τ++σ) (lam++Z.set i (.d x))) (ae:τ.length=lam.length) (hr:lam.all noLr=true):∃H2,Inv X ab σ0 H2 s1/\REnv X.K Pr H2 (τ++σ) (lam++Z):=by
 have hil:i<Z.length:=(ah.mp hi).1;have prm:=owns_takeL hi (l:=.d x) rfl;have hnd:(ownsL k++owns (Z.set i (.d x))).Nodup:=prm.nodup_iff.mp E.nd;obtain⟨nd1,nd2,nd3⟩:=aJ.mp hnd;have hna:∀a∈ownsL k,a∉owns (Z.set i (.d x)):=λa ha z=>nd3 a ha a z rfl;have hb:∀b u,H1 b=some u->b∉owns (Z.set i (.d x))->H' b=some u:=λb u e hno=>by refine E'.sub b u ?_;unfold butOwn;rw[if_neg hno];exact e
 have hS:∀a∈ownsL k,∃o vs,H' a=some (.frz o (.lst vs)):=λa ha=>by obtain⟨vs,e⟩:=hSa a ha;obtain⟨o,eo⟩:=F.2.2 a ha vs e;exact⟨o,vs,hb a _ eo (hna a ha)⟩
 obtain⟨H2,I2,T⟩:=thawAll (ownsL k) nd1 I' hS λa ha o u e=>by have z:=I.base.frzs a o u e;obtain⟨vs,q⟩:=hSa a ha;rw[q]at z;cases z
 have back:∀a∈ownsL k,H2 a=H a:=λa ha=>by obtain⟨vs,e⟩:=hSa a ha;obtain⟨o,eo⟩:=F.2.2 a ha vs e;obtain⟨o',vs',e1,e2⟩:=T.2 a ha;rw[hb a _ eo (hna a ha)]at e1;cases e1;rw[e2,e]
 have P:Pres H H2:=λb u hp e=>by
  have hno:b∉owns Z:=λz=>by obtain⟨ws,hz,mu⟩:=E.at_own z;rw[hz]at e;cases e;exact mu.no hp
  have hnk:b∉ownsL k:=λz=>hno (prm.mem_iff.mpr (au _ z));rw[T.1 b hnk];exact hb b u (F.1 b u hp e) λz=>hno (prm.mem_iff.mpr (ar _ z))
 obtain⟨sl1,sl2⟩:=Paired.unapp ae E'.sl;have ndE:=E'.nd;rw[owns_append]at ndE;obtain⟨ne1,ne2,ne3⟩:=aJ.mp ndE
 have lamS:∀a∈owns lam,a∉ownsL k/\Pr a=none/\a∉owns (Z.set i (.d x)):=λa ha=>by
  obtain⟨vs,e,mu⟩:=E'.at_own (a:=a) (by rw[owns_append];exact au _ ha);have h1:a∉ownsL k:=λz=>by obtain⟨o,us,e1,_⟩:=T.2 _ z;rw[e1]at e;cases e;exact mu
  have h3:a∉owns (Z.set i (.d x)):=λz=>ne3 a ha a z rfl;refine⟨h1,?_,h3⟩;have hoff:=E'.off a (by rw[owns_append];exact au _ ha);unfold butOwn at hoff;rw[if_neg h3]at hoff
  cases ep:Pr a with
  |none=>rfl
  |some w=>rw[E1.sub a w ep]at hoff;cases hoff
 have slt:Paired (Slot1 X.K H2) σ (Z.set i .un):=by
  have q:Paired (Slot1 X.K H') σ (Z.set i .un):=by have:=(Paired.set_r (b:=L.un) i sl2 λ_ _=>by unfold Slot1;exact True.intro);rwa [bR]at this
  refine slots_thaw T P (Z0:=Z) zY (λj l e=>?_) E.sl q;by_cases hj:j=i
  . subst hj;rw[a9 hil]at e;cases e;exact .inl noLr_un
  .
   have h1:=bb.mp hfl l (bu (i:=j) e);rw[br (Ne.symm hj)]at e
   cases l with
   |un=>exact .inl noLr_un
   |d y=>exact .inr ⟨y,rfl,e⟩
   |own b ys=>exact .inl h1
   |bx b ls=>exact .inl h1
   |dic b ls=>exact .inl h1
 have slr:Paired (Slot1 X.K H2) τ lam:=Paired.impMem sl1 λl hl s q=>q.thaw T l (bb.mp hr l hl);refine⟨H2,I2,λb u e=>?_,?_,λb hbm=>?_,Paired.app slr ?_⟩
 .
  have hno:b∉owns Z:=λz=>by have:=E.off b z;rw[e]at this;cases this
  have hnk:b∉ownsL k:=λz=>hno (prm.mem_iff.mpr (au _ z));rw[T.1 b hnk];refine hb b u ?_ λz=>hno (prm.mem_iff.mpr (ar _ z));rw[F.2.1 b hnk];exact E.sub b u e
 .
  rw[owns_append,aJ];refine⟨ne1,E.nd,λc hc d hd z=>?_⟩;subst z;obtain⟨h1,h2,h3⟩:=lamS c hc;rcases aM.mp (prm.mem_iff.mp hd)with z|z
  . exact h1 z
  . exact h3 z
 .
  rw[owns_append]at hbm;rcases aM.mp hbm with z|z
  . exact(lamS b z).2.1
  . exact E.off b z
 .
  obtain⟨sv,hs,q⟩:=E.slot hi;have:=Paired.set_r (b:=k) i slt λs es=>by rw[hs]at es;cases es;exact q.pres P k back
  rw[bR]at this
  have e2:Z.set i k=Z:=by
   refine List.ext_getElem? λj=>?_;by_cases hj:j=i
   . subst hj;rw[a9 hil,hi]
   . rw[br (Ne.symm hj)]
  rwa [e2]at this
def pkW(o:Option L)(i:Nat)(t:W L)(Z:Ev)(af:L->Ev->Prop):Prop:=match o with
 |some (.own _ xs)=>flatOwn i Z=true/\t (Z.set i (.d (.lst xs))) λr Z'=>noLr r=true/\Z'=Z.set i (.d (.lst xs))/\af r Z
 |some (.bx b ls)=>flatOwn i Z=true/\toDB b ls λx=>t (Z.set i (.d x)) λr Z'=>noLr r=true/\Z'=Z.set i (.d x)/\af r Z
 |_=>t Z af
def wPeek(i:Nat)(t:W L):W L:=λZ af=>pkW Z[i]? i t Z af
theorem pkW_own(a:Addr)(xs:List D)(i:Nat)(t:W L)(Z:Ev)(af:L->Ev->Prop):pkW (some (.own a xs)) i t Z af=(flatOwn i Z=true/\t (Z.set i (.d (.lst xs))) λr Z'=>noLr r=true/\Z'=Z.set i (.d (.lst xs))/\af r Z):=(rfl)
theorem pkW_bx(b:Option Addr)(ls:List L)(i:Nat)(t:W L)(Z:Ev)(af:L->Ev->Prop):pkW (some (.bx b ls)) i t Z af=(flatOwn i Z=true/\toDB b ls λx=>t (Z.set i (.d x)) λr Z'=>noLr r=true/\Z'=Z.set i (.d x)/\af r Z):=(rfl)
theorem pkW_d(x:D)(i:Nat)(t:W L)(Z:Ev)(af:L->Ev->Prop):pkW (some (.d x)) i t Z af=t Z af:=(rfl)
theorem peek_in{X:Cx}{ab:List (Addr×Obj)}{s:Shared}{σ:St}{H Pr:Hp}{Z:Ev}{i:Nat}{k:L}{x:D}(I:Inv X ab σ H s)(E:REnv X.K Pr H σ Z)(hi:Z[i]?=some k)(hx:eraseL k=some x):∃H1,Inv X ab σ H1 s/\REnv X.K Pr H1 σ (Z.set i (.d x))/\Frozen H H1 (ownsL k)/\∀a∈ownsL k,∃vs,H a=some (.lst vs):=by obtain⟨sv,hs,sl⟩:=E.slot hi;obtain⟨H1,I1,E1,F⟩:=frzL k I (E.outL hi hs) hx;have hil:i<Z.length:=(ah.mp hi).1;have E2:=E1.back (i:=i) (by rw[a9 hil]) hs;rw[bR]at E2;exact⟨H1,I1,E2,F,sl.lsts k hx⟩
theorem pl_peek{X:Cx}{e:Expr}(i:Nat){t:W L}(h:PL X e t):PL X e (wPeek i t):=by
 intro ab s σ H Pr Z af I E hw;have go:∀(k:L)(x:D),Z[i]?=some k->eraseL k=some x->flatOwn i Z=true->(t (Z.set i (.d x)) λr Z'=>noLr r=true/\Z'=Z.set i (.d x)/\af r Z)->wpAny (model X.prog X.w) X.A (eval e X.env) (EL X ab σ Pr af) X.xe s:=by intro k x hi hx hfl hw;obtain⟨H1,I1,E1,F,Sa⟩:=peek_in I E hi hx;refine thn (h ab s σ _ _ _ _ I1 E1.wide hw) λu s1 ⟨v,H',r,Z',I',rv,E',hr,eρ,hp⟩=>?_;subst eρ;obtain⟨H2,I2,E2⟩:=peek_core (τ:=[some v]) (lam:=[r]) (v:=some v) I E hi Sa F hfl I' E1 E' rfl (by simpa using hr);exact⟨v,H2,r,Z,I2,rv,E2,hp⟩
 unfold wPeek pkW at hw;split at hw
 . rename_i a xs hi;exact go _ _ hi rfl hw.1 hw.2
 . rename_i b ls hi;obtain⟨x,hx,hw'⟩:=toDB_is hw.2;exact go _ _ hi hx hw.1 hw'
 . exact h ab s σ H Pr Z af I E hw
def pkB(o:Option L)(i:Nat)(t:W Bool)(Z:Ev)(af:Bool->Ev->Prop):Prop:=match o with
 |some (.own _ xs)=>flatOwn i Z=true/\t (Z.set i (.d (.lst xs))) λr Z'=>Z'=Z.set i (.d (.lst xs))/\af r Z
 |some (.bx b ls)=>flatOwn i Z=true/\toDB b ls λx=>t (Z.set i (.d x)) λr Z'=>Z'=Z.set i (.d x)/\af r Z
 |_=>t Z af
theorem pkB_own(a:Addr)(xs:List D)(i:Nat)(t:W Bool)(Z:Ev)(af:Bool->Ev->Prop):pkB (some (.own a xs)) i t Z af=(flatOwn i Z=true/\t (Z.set i (.d (.lst xs))) λr Z'=>Z'=Z.set i (.d (.lst xs))/\af r Z):=(rfl)
theorem pkB_bx(b:Option Addr)(ls:List L)(i:Nat)(t:W Bool)(Z:Ev)(af:Bool->Ev->Prop):pkB (some (.bx b ls)) i t Z af=(flatOwn i Z=true/\toDB b ls λx=>t (Z.set i (.d x)) λr Z'=>Z'=Z.set i (.d x)/\af r Z):=(rfl)
theorem pkB_d(x:D)(i:Nat)(t:W Bool)(Z:Ev)(af:Bool->Ev->Prop):pkB (some (.d x)) i t Z af=t Z af:=(rfl)
variable{X:Cx}
open Classical in
noncomputable def eS(h:Heap)(dx:PyData)(u:Value):Bool:=decide (∃d as,Reads h u d as/\d.canLay0=true/\PyData.eqv d dx=true)
variable{X:Cx}
theorem ints_are:∀{ns:List Int}{us:List Value},Vals (ns.map V.int) us->IntsAre us ns
 |[],_,r=>by cases r;exact .nil
 | n::ns,_,r=>by
  cases r with
  | cons r0 rs =>
   obtain⟨t,rfl⟩:=r0;exact .cons n t (ints_are rs)
theorem ints_of_reps{K:PySem.W.Frag}{H:Hp}:∀{vs:List V}{ns:List Int},Reps K H vs (ns.map D.int)->vs=ns.map V.int
 |_,[],r=>by cases r;rfl
 | _,n::ns,r=>by
  cases r with
  | cons r0 rs =>
   cases r0;rw[ints_of_reps rs];rfl
variable{X:Cx}
theorem call_maxL_seq(hc:X.calm=true):CallR X (.builtin "max") (λxs H Q=>∃(p:Addr)(ns:List Int),xs=[.ref p]/\SqL X.K H p (ns.map V.int)/\0 < ns.length/\∀ M,M∈ns->(∀ a,a∈ns->a<=M)->Q (.int M) H):=by
 intro ab s σ H xs us Q I r h;obtain⟨p,ns,rfl,hq,hne,q⟩:=h;obtain⟨u,rfl,rx⟩:=vals1 r;cases rx;obtain⟨its,r',pl,hz⟩:=I.list hq;have hi:=ints_are r';obtain⟨xs,e⟩:=hi.allInts.items;have hns:ns=xs.toList.map (·.1):=by rw[<- hi.numsOf,<- nums_intItems,<- e]
 have hsz:0<xs.size:=by have h3:=hne;rw[hns,aF,bH]at h3;exact h3
 have hl:=pl.isList;rw[e]at hl;refine max_intList (I.ok.hd hc) hl hsz λv h' tk hv hk=>?_;obtain⟨t,rfl⟩:=intItems_at hv;obtain⟨h1,h2⟩:=argBest_gt (numAt xs) (xs.size-1);refine⟨.int _,H,I.kept hk,⟨_,rfl⟩,q _ ?_ λa ha=>?_⟩
 . rw[hns,numAt_eq];exact getD_mem (by rw[aF,bH];omega)
 . rw[hns]at ha;obtain⟨j,hj,rfl⟩:=mem_getD ha;rw[aF,bH]at hj;rw[<- numAt_eq];exact h2 j zZ
def opMaxL:OpN:=λds k=>∃ns:List Int,ds=[.lst (ns.map D.int)]/\0<ns.length/\∀M,M∈ns->(∀a,a∈ns->a<=M)->k (.d (.int M))
theorem cd_maxL(hc:X.calm=true):CallD X (.builtin "max") opMaxL:=CallD.of (call_maxL_seq hc) λσ H Pr Z vs ds af E ps ⟨ns,e,hn,h⟩=>by
 subst e;obtain⟨v,rfl,r⟩:=reps1 ps
 cases r with
 | lst hz rs =>
  have:=ints_of_reps rs;subst this;exact⟨_,ns,rfl,hz.l,hn,λM h1 h2=>⟨_,E.cons_d (.int _),h M h1 h2⟩⟩
section
variable{X:Cx}{e a b c:Expr}{es:List Expr}{pos p p2:Pos}{ta:W L}{x y:Str}
def wLinks:List (Op2×W L)->D->W L
 |[],_=>λ_ _=>False
 |[(o,t)],dx=>λZ af=>t Z λy Z1=>toD y λdy=>o dx dy λr=>isBl r λk=>af (.d (.bl k)) Z1
 |(o,t)::q::r,dx=>λZ af=>t Z λy Z1=>toD y λdy=>o dx dy λz=>isBl z λk=>if k=true then wLinks (q::r) dy Z1 af else af (.d (.bl false)) Z1
def wChainN(ta:W L)(ls:List (Op2×W L)):W L:=λZ af=>ta Z λx Z1=>toD x λdx=>wLinks ls dx Z1 af
inductive Links (X:Cx):List CmpOp->List Expr->List (Op2×W L)->Prop where
 |one {op:CmpOp} {e:Expr} {o:Op2} {t:W L} (ho:OpD X (compareOp op) o) (h:PL X e t):Links X [op] [e] [(o,t)]
 |cons {op:CmpOp} {e:Expr} {o:Op2} {t:W L} {ops:List CmpOp} {es:List Expr} {ls:List (Op2×W L)} (ho:OpD X (compareOp op) o) (h:PL X e t) (r:Links X ops es ls):Links X (op::ops) (e::es) ((o,t)::ls)
theorem op_link{op:CmpOp}{o:Op2}{ab:List (Addr×Obj)}{s:Shared}{σ:St}{H Pr:Hp}{Z:Ev}{v:V}{u:Value}{dx:D}{R:Bool->D->Ev->Prop}{t:W L}{Q:Value->Value->Shared->Prop}(ho:OpD X (compareOp op) o)(h:PL X e t)
  (I:Inv X ab σ H s) (rv:RelV v u) (E:REnv X.K Pr H (some v::σ) (.d dx::Z)) (ht:t Z λy Z1=>toD y λdy=>o dx dy λr=>isBl r λk=>R k dy Z1)
  (hQ:∀u2 s3 w2 dy H3 Z1 k,Inv X ab σ H3 s3->RelV w2 u2->REnv X.K Pr H3 (some w2::σ) (.d dy::Z1)->R k dy Z1->Q u2 (.bool k) s3) :
  wpAny (model X.prog X.w) X.A (eval e X.env) (λb s₁=>wpAny (model X.prog X.w) X.A (compareOp op u b) (λc s₂=>Q b c s₂) X.xe s₁) X.xe s:=by
 refine thn (h ab s σ H _ Z _ I E.tail.wide ht) λu2 s2 q=>?_;obtain⟨y,H2,dy,Z2,I2,r2,E2,q2⟩:=EL.frz (af:=λdy Z1=>o dx dy λr=>isBl r λk=>R k dy Z1) q;have E3:REnv X.K Pr H2 (some y::some v::σ) (.d dy::.d dx::Z2):=REnv.step (τ:=[some v]) (lam:=[.d dx]) (w:=[some y]) (μ:=[.d dy]) E rfl E2 rfl;obtain⟨_,e1,p1⟩:=E3.head_d;obtain⟨_,e2,p2⟩:=E3.tail.head_d;cases e1;cases e2;have E4:REnv X.K Pr H2 σ Z2:=E3.tail.tail;have E5:REnv X.K Pr H2 (some y::σ) (.d dy::Z2):=E4.cons_d p1;have E5w:=E5;refine thn (ho ab s2 σ H2 (butOwn H2 Z2) Z2 v y u u2 dx dy _ I2 rv r2 E4.wide p2 p1 q2) λw s3 ⟨z,H3,r,I3,rz,E6,pp⟩=>?_;obtain⟨k,rfl,pp⟩:=isBl_is pp;obtain⟨_,e3,p3⟩:=E6.head_d;cases e3;cases p3;cases rz;have P3:Pres H2 H3:=pres_of E4 E6.sub;have E7:REnv X.K Pr H3 σ Z2:=E4.narrow E6.tail;exact hQ u2 s3 y dy H3 Z2 k I3 r2 (E7.cons_d (p1.pres P3)) pp
theorem links_pl{ops:List CmpOp}{es:List Expr}{ls:List (Op2×W L)}(h:Links X ops es ls):∀(ab:List (Addr×Obj))(s:Shared)(σ:St)(H Pr:Hp)(Z:Ev)(af:L->Ev->Prop)(v:V)(u:Value)(dx:D)(pos:Pos),Inv X ab σ H s->RelV v u->REnv X.K Pr H (some v::σ) (.d dx::Z)->wLinks ls dx Z af ->
  wpAny (model X.prog X.w) X.A (compareChain pos u ops (evalEach es X.env)) (EL X ab σ Pr af) X.xe s:=by
 induction h with
 | one ho h =>
  intro ab s σ H Pr Z af v u dx pos I rv E hl;refine chain_last ?_;exact op_link (R:=λk _ Z1=>af (.d (.bl k)) Z1) (Q:=λ_ c s=>EL X ab σ Pr af c s) ho h I rv E hl λu2 s3 w2 dy H3 Z1 k I3 r3 E3 q=>⟨.bl k,H3,_,Z1,I3,rfl,E3.tail.cons_d (.bl k),q⟩
 | @cons op e o t ops es ls ho h r ih =>
  intro ab s σ H Pr Z af v u dx pos I rv E hl
  cases r with
  | one ho2 h2 =>
   refine chain_link (op_link (R:=λk dy Z1=>if k=true then wLinks [_] dy Z1 af else af (.d (.bl false)) Z1) (Q:=λb c s=>wpAny (model X.prog X.w) X.A (truthy c) (λt s₃=>if t then _ else EL X ab σ Pr af c s₃) X.xe s) ho h I rv E hl λu2 s3 w2 dy H3 Z1 k I3 r3 E3 q=>?_)
   refine aN ?_
   cases k with
   |false=>exact ite_ff ⟨.bl false,H3,_,Z1,I3,rfl,E3.tail.cons_d (.bl false),q⟩
   |true=>exact ite_tt (ih ab s3 σ H3 Pr Z1 af w2 u2 dy pos I3 r3 E3 q)
  | cons ho2 h2 r2 =>
   cases r2 with
   | one ho3 h3 =>
    refine chain_link (op_link (R:=λk dy Z1=>if k=true then wLinks (_::_::_) dy Z1 af else af (.d (.bl false)) Z1) (Q:=λb c s=>wpAny (model X.prog X.w) X.A (truthy c) (λt s₃=>if t then _ else EL X ab σ Pr af c s₃) X.xe s) ho h I rv E hl λu2 s3 w2 dy H3 Z1 k I3 r3 E3 q=>?_)
    refine aN ?_
    cases k with
    |false=>exact ite_ff ⟨.bl false,H3,_,Z1,I3,rfl,E3.tail.cons_d (.bl false),q⟩
    |true=>exact ite_tt (ih ab s3 σ H3 Pr Z1 af w2 u2 dy pos I3 r3 E3 q)
   | cons ho3 h3 r3 =>
    refine chain_link (op_link (R:=λk dy Z1=>if k=true then wLinks (_::_::_) dy Z1 af else af (.d (.bl false)) Z1) (Q:=λb c s=>wpAny (model X.prog X.w) X.A (truthy c) (λt s₃=>if t then _ else EL X ab σ Pr af c s₃) X.xe s) ho h I rv E hl λu2 s3 w2 dy H3 Z1 k I3 r3 E3 q=>?_)
    refine aN ?_
    cases k with
    |false=>exact ite_ff ⟨.bl false,H3,_,Z1,I3,rfl,E3.tail.cons_d (.bl false),q⟩
    |true=>exact ite_tt (ih ab s3 σ H3 Pr Z1 af w2 u2 dy pos I3 r3 E3 q)
theorem pl_chainN{op op':CmpOp}{ops:List CmpOp}{r1 r2:Expr}{rs:List Expr}{ls:List (Op2×W L)}(ha:PL X a ta)(h:Links X (op::op'::ops) (r1::r2::rs) ls)(hm:lastMarks (op::op'::ops) (r1::r2::rs)=false:=by with_unfolding_all rfl):PL X (.Compare a (op::op'::ops) (r1::r2::rs) pos) (wChainN ta ls):=by intro ab s σ H Pr Z af I E ht;refine Compare_chain (thn (ha ab s σ H Pr Z _ I E ht) λu s1 q=>?_) hm;obtain⟨v,H1,dx,Z1,I1,rv,E1,q1⟩:=EL.frz (af:=λdx Z1=>wLinks ls dx Z1 af) q;exact links_pl h ab s1 σ H1 Pr Z1 af v u dx pos I1 rv E1 q1
noncomputable def strLe(x y:Str):Bool:=!decide (y.cps.toList<x.cps.toList)
theorem op_le_str:OpR X (compareOp .LtE) (λx y H Q=>∃i j,x=.str i/\y=.str j/\Q (.bl (strLe i j)) H):=by intro ab s σ H x y v u Q I rx ry ⟨i,j,ex,ey,q⟩;subst ex ey;obtain⟨t,rfl⟩:=rx;obtain⟨t',rfl⟩:=ry;refine PySem.P.le_str ⟨.bl _,H,I,rfl,?_⟩;have e:(strLe i j)=(!(decide (j.cps.toList<i.cps.toList))):=rfl;rw[e]at q;exact q
def opLe2:Op2:=λx y k=>match x,y with
 |.int i,.int j=>k (.d (.bl (decide (i<=j))))
 |.str i,.str j=>k (.d (.bl (strLe i j)))
 |_,_=>False
theorem od_le2:OpD X (compareOp .LtE) opLe2:=(OpD.or od_le (OpD.of (op:=λx y k=>∃i j,x=.str i/\y=.str j/\k (.d (.bl (strLe i j)))) op_le_str λσ H Pr Z x y dx dy af E px py ⟨i,j,e1,e2,h⟩=>by
 subst e1 e2;cases px;cases py
 exact⟨i,j,rfl,rfl,_,E.cons_d (.bl _),h⟩)).imp λx y k h=>by
 cases x<;>cases y<;>first|exact h.elim|exact .inl h|exact .inr ⟨_,_,rfl,rfl,h⟩
theorem truth_bools{prog:Program}{w:World}{A:Around}{ks:List Bool}{us:List Value}(h:us=ks.map Value.bool):TruthOf prog w A (λi v=>us.toArray[i]?=some v) (λi=>ks.getD i true):=λi v s Q E hv hQ=>by
 subst h;rw[List.getElem?_toArray,bo]at hv
 cases q:ks[i]? with
 |none=>rw[q]at hv;cases hv
 | some k =>
  rw[q]at hv;cases hv;refine aN ?_;have:ks.getD i true=k:=by rw[List.getD_eq_getElem?_getD,q];rfl
  have hQ':Q (ks.getD i true) s:=hQ;rw[this]at hQ';exact hQ'
theorem range_all(ks:List Bool):(List.range ks.length).all (λi=>ks.getD i true)=ks.all id:=by
 apply Bool.eq_iff_iff.mpr;simp only[bb,List.mem_range,id];constructor
 . intro h x hx;obtain⟨i,hi,e⟩:=List.getElem_of_mem hx;have:=h i hi;rw[List.getD_eq_getElem?_getD,aA hi]at this;simpa[e]using this
 . intro h i hi;rw[List.getD_eq_getElem?_getD,aA hi];exact h _ (List.getElem_mem hi)
theorem vals_bools:∀{ks:List Bool}{us:List Value},Vals (ks.map V.bl) us->us=ks.map Value.bool
 |[],_,.nil=>rfl
 | k::ks,_,.cons r t=>by have e:=vals_bools t;subst e;cases r;rfl
theorem call_all_seq(hc:X.calm=true):CallR X (.builtin "all") (λxs H Q=>∃(p:Addr)(ks:List Bool),xs=[.ref p]/\SqL X.K H p (ks.map V.bl)/\Q (.bl (ks.all id)) H):=by
 intro ab s σ H xs us Q I r ⟨p,ks,e,hq,q⟩;subst e;obtain⟨u,rfl,r1⟩:=vals1 r;cases r1;obtain⟨its,rv,pl,hz⟩:=I.list hq;have e:=vals_bools rv;refine call_all_walk (wpAny_pyIter_list pl.isList ?_);have hne:p≠s.heap.objs.size:=λz=>by obtain⟨o,n,eo,_⟩:=pl;have:=ay eo;rw[z]at this;exact absurd this (bW _)
 refine⟨s.heap.objs.size,_,_,_,_,_,(λi=>ks.getD i true),rfl,Walks.list (A:=X.A.in1) (I.ok.hd hc) _ p hne its.toArray,⟨⟨_,aS _ rfl,rfl,rfl⟩,pl.isList.at λo eo=>av _ eo⟩,truth_bools e,λh' tk hk=>?_⟩;have hl:its.toArray.size=ks.length:=by rw[e];simp
 rw[hl,range_all];refine⟨.bl _,H,I.kept (h':=h') (t':=tk) λb o eb=>hk b o (λhm=>?_) (av _ eb),rfl,q⟩;have e2:b=s.heap.objs.size:=by simpa using hm
 have:=ay eb;rw[e2]at this;exact absurd this (bW _)
theorem bools_of_reps{K:PySem.W.Frag}{H:Hp}:∀{vs:List V}{ks:List Bool},Reps K H vs (ks.map D.bl)->vs=ks.map V.bl
 |[],[],_=>rfl
 | _::_,k::ks,.cons r t=>by cases r;rw[bools_of_reps t];rfl
 |[],_::_,r=>nomatch r
 |_::_,[],r=>nomatch r
def opAll:OpN:=λds k=>∃ks:List Bool,ds=[.lst (ks.map D.bl)]/\k (.d (.bl (ks.all id)))
theorem cd_all(hc:X.calm=true):CallD X (.builtin "all") opAll:=CallD.of (call_all_seq hc) λσ H Pr Z vs ds af E ps ⟨ks,e,h⟩=>by
 subst e;obtain⟨v,rfl,r⟩:=reps1 ps
 cases r with
 | lst hz rs =>
  have e:=bools_of_reps rs;subst e;exact⟨_,ks,rfl,hz.l,_,E.cons_d (.bl _),h⟩
end
end L2
set_option exponentiation.threshold 2000
namespace L2
open PySem PySem.Spec PyProof.Rows
section
variable{X:Cx}{e a b:Expr}{x y:Str}
mutual
noncomputable def shortD:D->Bool
 |.int i=>decide (i.natAbs<2^1900)
 |.tup xs=>shortDs xs
 |.lst xs=>shortDs xs
 |_=>true
noncomputable def shortDs:List D->Bool
 |[]=>true
 |x::xs=>shortD x && shortDs xs
end
theorem two1900:(2:Nat)^1900<10^600:=by decide +kernel
theorem int_short{i:Int}(h:i.natAbs<2^1900):(PyData.shown (.int i)).length<=601:=by have e:=PySem.int_text_length_le10 (k:=600) zd (Nat.lt_trans h two1900);show(Str.ofString (toString i)).length<=601;rw[PySem.ofString_length];exact e
mutual
theorem short_is:∀d:D,shortD d=true->(toP d).intsShort 601=true/\(toP d).showable=true
 |.non,_=>⟨rfl,rfl⟩
 |.bl _,_=>⟨rfl,rfl⟩
 |.str _,_=>⟨rfl,rfl⟩
 |.dct _,_=>⟨rfl,rfl⟩
 |.exc _ _ _,_=>⟨rfl,rfl⟩
 |.fn _ _,_=>⟨rfl,rfl⟩
 |.dk _ _,_=>⟨rfl,rfl⟩
 |.gf _,_=>⟨rfl,rfl⟩
 | .int i,h=>by
  have h':i.natAbs<2^1900:=by simpa only[shortD,bE]using h
  refine⟨by simp only[toP,PyData.intsShort,bE];exact int_short h',?_⟩
  simp only[toP,PyData.showable,bE]
  by_cases h0:i.natAbs=0
  .
   rw[h0];decide
  .
   exact(Nat.log2_lt h0).mpr (aq h' (bt zd zd))
 | .tup xs,h=>by
  obtain⟨h1,h2⟩:=short_iss xs (by simpa only[shortD]using h)
  exact⟨by simpa only[toP,PyData.intsShort]using h1,by simpa only[toP,PyData.showable]using h2⟩
 | .lst xs,h=>by
  obtain⟨h1,h2⟩:=short_iss xs (by simpa only[shortD]using h)
  exact⟨by simpa only[toP,PyData.intsShort]using h1,by simpa only[toP,PyData.showable]using h2⟩
theorem short_iss:∀ds:List D,shortDs ds=true->PyData.intsShortAll 601 (toPs ds)=true/\PyData.showableAll (toPs ds)=true
 |[],_=>⟨rfl,rfl⟩
 | d::ds,h=>by
  simp only[shortDs,aI]at h
  obtain⟨h1,h2⟩:=short_is d h.1
  obtain⟨h3,h4⟩:=short_iss ds h.2
  exact⟨by simp only[toPs,PyData.intsShortAll,h1,h3,Bool.and_self],by simp only[toPs,PyData.showableAll,h2,h4,Bool.and_self]⟩
end
structure ReprOk (d:D):Prop where
 ok:okD 40 d=true
 sh:shortD d=true
 wt:(toP d).weight<=20000
theorem ReprOk.len{d:D}(h:ReprOk d):(toP d).shown.length<=sizeLine:=by
 have h1:=PyData.shown_le 601 zd (toP d) (PyData.leavesShort_of_canLay0 601 _ (okD_lay 40 d h.ok).1 (short_is d h.sh).1);have h2:=h.wt;have e:sizeLine=16777216:=by decide
 rw[e];omega
def opEqS:Op2:=λx y k=>match x,y with
 |.str a,.str b=>k (.d (.bl (decide (a=b))))
 |_,_=>False
theorem od_eqS:OpD X (compareOp .Eq) opEqS:=OpD.of op_eq λσ H Pr Z x y dx dy af E px py h=>by
 unfold opEqS at h;split at h
 .
  cases px;cases py;rename_i a b;refine⟨rfl,_,E.cons_d (.bl _),?_⟩;have e:decide (V.str a=V.str b)=decide (a=b):=by simp
  rw[e];exact h
 . exact h.elim
def fzW(f:Fl)(o:Option L)(j:Nat)(Z1:Ev)(af:Fl->Ev->Prop):Prop:=match f with
 | .nx=>(match o with
  |some (.own _ xs)=>af .nx (Z1.set j (.d (.lst xs)))
  |_=>af .nx Z1)
 |f=>af f Z1
theorem fzW_own(a:Addr)(xs:List D)(j:Nat)(Z1:Ev)(af:Fl->Ev->Prop):fzW .nx (some (.own a xs)) j Z1 af=af .nx (Z1.set j (.d (.lst xs))):=(rfl)
theorem fzW_d(x:D)(j:Nat)(Z1:Ev)(af:Fl->Ev->Prop):fzW .nx (some (.d x)) j Z1 af=af .nx Z1:=(rfl)
end
section
variable{X:Cx}{ab:List (Addr×Obj)}{σ:St}{H Pr:Hp}{s:Shared}{Z:Ev}
noncomputable def Itx(x:Str):It:=⟨λi _=>i<x.cps.size,λi H v H'=>(∃c,x.cps[i]?=some c/\v=.str ⟨#[c]⟩)/\H'=H,λi _=>x.cps.size<=i⟩
theorem turn_str{P:Program}{w:World}{K:PySem.W.Frag}{tg:Expr}(it:Addr)(x:Str)(t:Tok):Turn P w K tg (Itx x) [it] it (λi h=>h.IsStrIter it "str_ascii_iterator" x t i) where
 mem:=by simp
 obj:=λi h st b hb=>by
  have e:b=it:=by simpa using hb
  subst e;obtain⟨o,e,c,d⟩:=st;exact⟨o,e,λv z=>by rw[d]at z;cases z⟩
 keep:=λi h h' st k=>by obtain⟨o,e,c,d⟩:=st;exact⟨o,k it zY o e,c,d⟩
 item:=by intro X hP hw hK hc i ab s σ H E I hf st hg;subst hP hw hK;obtain⟨f0,f1,f2,f3,f4,f5⟩:=hf it zY;refine wpAny_pyNext_ascii_item st (Array.getElem?_eq_getElem hg) λh' st' sb=>?_;have I1:Inv X ab σ H {s with heap:=h',toks:=s.toks+1}:=I.turned (t':=s.toks+1) (λb o hb e=>(sb.2 b hb).trans e) f0 f1 f3 f4 f5;obtain⟨o,e,c,d⟩:=id st';exact⟨_,rfl,go_of (s:={s with heap:=h',toks:=s.toks+1}) e c d zd ⟨.str ⟨#[x.cps[i]]⟩,H,I1,⟨_,rfl⟩,⟨⟨_,Array.getElem?_eq_getElem hg,rfl⟩,rfl⟩,st',λb hb=>(hf b hb).1⟩⟩
 done:=by intro X hP hw hK hc i ab s σ H E I hf st hg;subst hP hw hK;obtain⟨f0,f1,f2,f3,f4,f5⟩:=hf it zY;exact wpAny_pyNext_ascii_end (I.ok.hd hc) st (Array.getElem?_eq_none hg) λh' eb=>⟨rfl,I.turned (t':=s.toks) (λb o hb e=>eb b o hb e) f0 f1 f3 f4 f5⟩
 self:=λ_ _ _ _ _ st h=>wpAny_pyIter_striter_ascii st h
noncomputable def signsD(x:Str):List D:=x.cps.toList.map λc=>.str ⟨#[c]⟩
theorem gives_str{K:PySem.W.Frag}{H:Hp}(x:Str):Gives K H (Itx x) (signsD x):=λH' p=>by
 refine⟨λi y e=>?_,?_⟩
 .
  unfold signsD at e;rw[bo]at e
  cases hc:x.cps.toList[i]? with
  |none=>rw[hc]at e;cases e
  | some c =>
   rw[hc]at e;have ey:D.str ⟨#[c]⟩=y:=a8 e;subst ey;have hi:i<x.cps.size:=by simpa using(ah.mp hc).1
   refine⟨hi,λv H2 ⟨⟨c',e1,e2⟩,e3⟩=>?_⟩;have:x.cps[i]?=some c:=by simpa using hc
   rw[this]at e1;cases e1;subst e2 e3;exact⟨.inl rfl,.str _⟩
 . show x.cps.size<=(signsD x).length;simp[signsD]
def signsOf(d:D)(k:List D->Prop):Prop:=match d with
 |.str x=>x.cps.all (· < 128)=true/\k (signsD x)
 |_=>False
def wSrcS(t:W L):W (List D):=λZ af=>t Z λr Z1=>toD r λx=>signsOf x λxs=>af xs Z1
theorem pil_str{e tg:Expr}{t:W L}(h:PL X e t):PIL X tg e (wSrcS t):=by
 intro ab s σ H Pr Z af I E ht;refine thn (h ab s σ H Pr Z _ I E ht) λu s1 q=>?_;obtain⟨v,H1,x,Z1,I1,r1,E1,q2⟩:=EL.frz (af:=λx Z1=>signsOf x λxs=>af xs Z1) q;obtain⟨_,e1,p⟩:=E1.head_d;cases e1
 cases p with
 | str y =>
  obtain⟨t,rfl⟩:=r1;obtain⟨ha,q3⟩:y.cps.all (· < 128)=true/\af (signsD y) Z1:=q2;refine wpAny_pyIter_ascii ha ?_;refine⟨s1.heap.objs.size,[s1.heap.objs.size],_,_,H1,_,Z1,rfl,I1.kept (t':=s1.toks) λb o e=>av _ e,turn_str _ y t,⟨_,aS _ rfl,rfl,rfl⟩,λb hb=>?_,E1.tail,gives_str y,q3⟩;have e:b=s1.heap.objs.size:=by simpa using hb
  subst e;exact I1.fpOk (ao _) (I1.hok.fresh (ao _))
 |_=>exact q2.elim
end
structure FX (K:PySem.W.Frag) (mg:Str->Option Value) (g:Str) (st:Stmt) (a:Addr) (fd:FuncData) (P:List Str):Prop where
 f:Fun K g g st a fd
 b:Binds K fd P []
 m:mg g=some (.ref a)
noncomputable abbrev fdM(g:Str)(st:Stmt)(md:Value)(c:Nat):FuncData:=PySem.W.fnOf g g (defArgs st) (defBody st) (defScope st) .none .none .none md none (.ref c) .none
theorem FX.mk'{K:PySem.W.Frag}{mg:Str->Option Value}{h:Heap}(X:K.In h)(G:h.Ns mainGlobals mg){g:Str}{st:Stmt}{a:Addr}{c:Nat}{md:Value}{P:List Str}(e1:PySem.W.nsIn K mainGlobals g=some (some (.ref a)))
  (e2:K.lookup a=some ⟨.type "function",none,.func (fdM g st md c),#[]⟩) (e3:PySem.W.codeIn K (.ref c) g=true) (e4:PySem.W.keepIn K (.ref a)=true)
  (e5:∀(kV doc pm:Value)(an:Option Addr)(cdv ct:Value)(us:List Value),us.length=P.length->bindArgs (PySem.W.fnOf g g (defArgs st) (defBody st) (defScope st) .none kV doc pm an cdv ct) ⟨us,[]⟩=pure (P.zip us)):FX K mg g st a (fdM g st md c) P :=
 ⟨fun_mk e2 e3 e4,(fun_mk e2 e3 e4).binds e5,bL X G e1⟩
section
variable{X:Cx}{k k' n:Nat}{f:Addr}{fd:FuncData}{ps:List Str}{fs:FS}{g:Str}{st:Stmt}{e:Expr}{es:List Expr}{bs:List (Option Nat)}{t:W (List L)}{p pos:Pos}
theorem pl_cx(F:FnOk X.prog X.w X.K X.mg X.base CX0 k f fd ps (spF X.K n fs))(T:FX X.K X.mg g st f fd ps)(hr:Room k' X.A)(ha:PAL X (e::es) bs t)(hk:k<=k':=by decide)(hg:Gl X g:=by rfl)(hn:bs.length=n:=by rfl) (hdb:(g == ("__debug__" : Str))=false:=by decide) (he:starEach (e::es) X.env=(false,eval e X.env)::starEach es X.env:=by rfl) (hpl:(backTo pos (starEach es X.env)).any (·.1)=false:=by rfl) :
  PL X (.Call (.Name g p) (e::es) [] pos) (wCall fs t):=pl_call F (hr.mono hk) hg T.m T.f.kp T.b pass0 ha hn hdb he hpl
theorem pl_cxB(F:FnOk X.prog X.w X.K X.mg X.base CX0 k f fd ps (spF X.K n fs))(T:FX X.K X.mg g st f fd ps)(hr:Room k' X.A)(j i:Nat)(ha:PAL X (e::es) bs t)(hk:k<=k':=by decide)(hg:Gl X g:=by rfl)(hj:bs[j]?=some (some i):=by rfl)(hn:bs.length=n:=by rfl) (hdb:(g == ("__debug__" : Str))=false:=by decide) (he:starEach (e::es) X.env=(false,eval e X.env)::starEach es X.env:=by rfl) (hpl:(backTo pos (starEach es X.env)).any (·.1)=false:=by rfl) :
  PL X (.Call (.Name g p) (e::es) [] pos) (wCallB fs j i t):=pl_callB F (hr.mono hk) hg T.m T.f.kp T.b pass0 j i ha hj hn hdb he hpl
end
theorem fnOk_no{P:Program}{w:World}{K:PySem.W.Frag}{mg:Str->Option Value}{base:Heap}{CX:CXT}{k n:Nat}{f:Addr}{fd:FuncData}{ps:List Str}{fs:FS}(h:∀ls af,¬fs ls af):FnOk P w K mg base CX k f fd ps (spF K n fs) :=
 ⟨λ_ _ _ _ ⟨_,_,ls,af,_,q,_⟩=>(h ls af q).elim,λ_ _ _ _ _ _ _ _ _ _ _ _ _ ⟨_,_,ls,af,_,q,_⟩=>(h ls af q).elim⟩
mutual
noncomputable def depD:D->Nat
 |.tup xs=>depDs xs+1
 |.lst xs=>depDs xs+1
 |_=>0
noncomputable def depDs:List D->Nat
 |[]=>0
 |x::xs=>max (depD x) (depDs xs)
end
theorem depDs_le{n:Nat}:∀{xs:List D},(∀x∈xs,depD x<=n)->depDs xs<=n
 |[],_=>b7 _
 | y::ys,h=>by simp only[depDs];have:=h y ai;have:=depDs_le (xs:=ys) λx hx=>h x (ag _ hx);omega
end L2
namespace L2
open PySem PySem.Spec PyProof.Rows PySem.Builtin.Str
inductive Sk where
 |l|t
noncomputable abbrev Zi:=Sk×Addr×Addr
noncomputable def Zi.ofs(js:List Zi):List Addr:=js.map (·.2.1)
def ZKeep(z O:Addr)(js:List Zi)(h h':Heap):Prop:=∀c o,c∉z::O::Zi.ofs js->h.get? c=some o->h'.get? c=some o
noncomputable def Sk.nm:Sk->String
 |.l=>"list_iterator"
 |.t=>"tuple_iterator"
def SqK(K:PySem.W.Frag)(H:Hp):Sk->Addr->List V->Prop
 |.l,a,xs=>SqL K H a xs
 |.t,a,xs=>SqT K H a xs
def SqF(K:PySem.W.Frag)(H:Hp):Sk->Addr->List V->Prop
 |.l,a,xs=>SqZ K H a xs
 |.t,a,xs=>SqT K H a xs
theorem SqF.pres{K:PySem.W.Frag}{H H':Hp}{k:Sk}{a:Addr}{xs:List V}(p:Pres H H')(h:SqF K H k a xs):SqK K H' k a xs:=by
 cases k with
 |l=>exact(SqZ.pres p h).l
 |t=>exact SqT.pres p h
section
variable{z O:Addr}{js:List Zi}
theorem ZKeep.mono{h h':Heap}(k:ZKeep z O js h h'){c:Addr}{o:Obj}(hc:c∉z::O::Zi.ofs js)(e:h.get? c=some o):h'.get? c=some o:=k c o hc e
end
end L2
namespace L2
open PySem PySem.Spec PyProof.Rows
section
variable{X:Cx}{e:Expr}{pos:Pos}
def augW:Option L->(Int->Prop)->Prop
 |some (.d (.int a)),k=>k a
 |_,_=>False
theorem augW_int(a:Int)(k:Int->Prop):augW (some (.d (.int a))) k=k a:=rfl
theorem augW_is{o:Option L}{k:Int->Prop}(h:augW o k):∃a,o=some (.d (.int a))/\k a:=by
 unfold augW at h;split at h
 . exact⟨_,rfl,h⟩
 . exact h.elim
def wAug(i:Nat)(f:Int->Int->Int)(te:W L):W Fl:=λZ af=>augW Z[i]? λa=>te Z λr Z1=>toInt r λb=>af .nx (Z1.set i (.d (.int (f a b))))
theorem pm_aug{i:Nat}{x:Str}{te:W L}{pos':Pos}{op:Operator}{f:Int->Int->Int}(ho:PIp X op (ipI f))(hN:X.N.Nodup)(hi:X.N[i]?=some x)(hx:Loc X.env.scope x)(he:PL X e te)(hf:X.fn x=true∨X.env.scope.names.lookup x=some .local:=by first|exact .inl rfl|exact .inr rfl|assumption) :
  PM X (.AugAssign (.Name x pos') op e pos) (wAug i f te):=by
 refine PM.of (ps_aug hN hi hx he.pe ho hf) λσ H Pr Z af ae E h=>?_;obtain⟨a,q,h⟩:=augW_is h;obtain⟨sv,hs,v,rfl,r⟩:=E.slot q;cases r;refine⟨_,hs,Pr,Z,_,E,h,λy H1 r Z1 E1 p=>?_⟩;obtain⟨b,rfl,p⟩:=toInt_is p;obtain⟨_,e1,p1⟩:=E1.head_d;cases e1;cases p1;exact⟨a,b,rfl,rfl,_,(E1.tail.cons_d (.int _)).store (by rw[ae];exact(ah.mp hi).1),p⟩
end
end L2
namespace L2
open PySem PySem.Spec PyProof.Rows PySem.W
section
structure Fly (h:Heap) (e:Addr) (cls:Value) (dx T:Option Addr):Prop where
 ex:∃vs sl,h.get? e=some ⟨cls,dx,.fields vs,sl⟩/\1<vs.size/\(match T with
  |none=>vs[1]?=some .none
  |some t=>vs[1]?=some (.ref t)/\t≠e/\∃ot ts,h.get? t=some ot/\ot.data=.fields ts/\ts[3]?=some .none)
end
noncomputable def del(H:Hp)(e:Addr):Hp:=λb=>if b=e then none else H b
theorem del_ne{H:Hp}{e b:Addr}(h:b≠e):del H e b=H b:=by unfold del;rw[if_neg h]
theorem del_self{H:Hp}{e:Addr}:del H e e=none:=by unfold del;rw[if_pos rfl]
def vis(o:HO):Prop:=Pers o/\noIns o
theorem Fly.at{h h':Heap}{e:Addr}{cls:Value}{dx:Option Addr}(f:Fly h e cls dx none)(k:∀o,h.get? e=some o->h'.get? e=some o):Fly h' e cls dx none:=by obtain⟨vs,sl,he,hz,h1⟩:=f;exact⟨vs,sl,k _ he,hz,h1⟩
noncomputable def XO(e:Addr)(cls:Value)(dx:Option Addr):HO:=.ext λh=>Fly h e cls dx none
noncomputable def XD(d:Addr)(fs:List (Str×V)):HO:=.ext λh=>∃mA,h.Ns1 d mA/\(∀f,RelO (fs.lookup f) (mA f))/\PySem.Within mA (fs.map (·.1))
theorem XO.ok{P:Program}{w:World}{H:Hp}{h:Heap}{e:Addr}{cls:Value}{dx:Option Addr}(f:Fly h e cls dx none):ObjOk P w H h e (XO e cls dx):=by obtain⟨vs,sl,he,hz,h1⟩:=f;exact⟨⟨vs,sl,he,hz,h1⟩,⟨_,he⟩,λh1 h2 p k=>p.at k⟩
theorem XD.ok{P:Program}{w:World}{H:Hp}{h:Heap}{d:Addr}{fs:List (Str×V)}{mA:Str->Option Value}(n:h.Ns1 d mA)(r:∀f,RelO (fs.lookup f) (mA f))(wi:PySem.Within mA (fs.map (·.1))):ObjOk P w H h d (XD d fs) :=
 ⟨⟨mA,n,r,wi⟩,let ⟨o,_,_,e,_⟩:=n;⟨o,e⟩,λh1 h2 ⟨mA,n,r⟩ k=>⟨mA,n.at k,r⟩⟩
structure Xc where
 c:Str
 ns:List Str
 ds:List D
def XFly(K:Frag)(H:Hp)(cls:Value)(dx:Option Addr)(x:Xc):Prop:=∃C vs,cls=.ref C/\excStd K x.c C=true/\(∀f∈x.ns,findIn K (.ref C) f=some none)/\XF H dx x.ns vs/\Reps K H vs x.ds
theorem XFly.ext{K:Frag}{H H':Hp}{cls:Value}{dx:Option Addr}{x:Xc}(f:XFly K H cls dx x)(h:∀b o,H b=some o->H' b=some o):XFly K H' cls dx x:=by obtain⟨C,vs,e,s,fq,a,r⟩:=f;exact⟨C,vs,e,s,fq,a.pres λb o _ q=>h b o q,r.pres λb o _ q=>h b o q⟩
section
variable{H:Hp}
theorem HOk.there{P:Program}{w:World}{H:Hp}{h:Heap}(x:HOk P w H h){b:Addr}{o:HO}(e:H b=some o):∃u,h.get? b=some u:=by
 have lt:=x.lt e
 cases o with
 |lst xs=>obtain⟨_,_,_,_,e⟩:=x b _ e;exact⟨_,e⟩
 |tup xs=>obtain⟨_,_,_,o,e,_⟩:=x b _ e;exact⟨_,e⟩
 |dK kvs=>obtain⟨_,_,_,_,o,_,_,e,_⟩:=x b _ e;exact⟨_,e⟩
 |dT kvs=>obtain⟨_,_,_,_,o,_,_,e,_⟩:=x b _ e;exact⟨_,e⟩
 |set S n=>obtain⟨o,_,_,_,e,_⟩:=x b _ e;exact⟨_,e⟩
 |ins C dx fs=>obtain⟨_,_,_,e,_⟩:=x b _ e;exact⟨_,e⟩
 |own y=>obtain⟨_,e⟩:=x b _ e;exact⟨_,e⟩
 |xd fs=>obtain⟨_,⟨_,_,_,e,_⟩,_⟩:=x b _ e;exact⟨_,e⟩
 |rng lo hi=>obtain⟨_,_,_,e⟩:=x b _ e;exact⟨_,e⟩
 |frz ob u=>obtain⟨e,_⟩:=x b _ e;exact⟨_,e⟩
 |tbl t=>obtain⟨_,e,_⟩:=x b _ e;exact⟨_,e⟩
 |met f y=>exact⟨_,(show h.get? b=some _ from x b _ e)⟩
 |ext φ=>obtain⟨_,⟨_,e⟩,_⟩:=x b _ e;exact⟨_,e⟩
end
abbrev FSX:=List D->(L->Prop)->(Xc->Prop)->Prop
theorem REnv.ds{K:Frag}{H:Hp}:∀{vs:List V}{ds:List D},Reps K H vs ds->Paired (Slot1 K H) (vs.map some) (ds.map .d)
 |_,_,.nil=>.nil
 |_,_,.cons h t=>.cons ⟨_,rfl,h⟩ (REnv.ds t)
end L2
namespace L2
open PySem PySem.Spec PyProof.Rows
section
variable{κ:Type}[DecidableEq κ]
theorem KV.any{kvs:List (κ×V)}{vs:List (κ×Value)}(r:KV kvs vs)(k:κ):(kvs.any λkv=>decide (kv.1=k))=vs.any λkv=>decide (kv.1=k):=by
 unfold KV at r
 induction r with
 |nil=>rfl
 |cons h t ih=>rw[bU,bU,ih,h.1]
theorem KV.length{kvs:List (κ×V)}{vs:List (κ×Value)}(r:KV kvs vs):kvs.length=vs.length:=Paired.length r
end
theorem kV_is{P:Program}{w:World}{k:Key}{u:Value}(r:RelV (kV k) u):(mixKind P w).is k u=true:=by
 cases k with
 |inl i=>obtain⟨t,e⟩:=(show ∃t,u=Value.int i t from r);subst e;exact mixKind_int P w i t
 |inr x=>obtain⟨t,e⟩:=(show ∃t,u=Value.str x t from r);subst e;exact mixKind_str P w x t
abbrev DR(K:PySem.W.Frag)(H:Hp):List (Key×V)->List (Key×D)->Prop:=Paired λ(p:Key×V) (q:Key×D)=>p.1=q.1/\Rep K H p.2 q.2
theorem DR.any{K:PySem.W.Frag}{H:Hp}{k:Key}:∀{vs:List (Key×V)}{kvs:List (Key×D)},DR K H vs kvs->(vs.any λp=>decide (p.1=k))=kvs.any λp=>decide (p.1=k)
 |_,_,.nil=>rfl
 |p::vs,q::kvs,.cons h t=>by rw[bU,bU,DR.any t,h.1]
theorem DR.pres{K:PySem.W.Frag}{H H':Hp}(p:Pres H H'){vs:List (Key×V)}{kvs:List (Key×D)}(h:DR K H vs kvs):DR K H' vs kvs:=Paired.mapP h λ_ _ z=>⟨z.1,z.2.pres p⟩
section
variable{X:Cx}{pos:Pos}
noncomputable def flatC:D->Bool
 |.int _=>true
 |.str _=>true
 |.bl _=>true
 |.non=>true
 |_=>false
theorem Rep.flatC{K:PySem.W.Frag}{H H':Hp}{v:V}{d:D}(h:L2.flatC d=true)(r:Rep K H v d):Rep K H' v d:=by
 cases r with
 |int i=>exact .int i
 |str i=>exact .str i
 |bl i=>exact .bl i
 |non=>exact .non
 |_=>cases h
inductive DPs (X:Cx):List (Option Expr)->List Expr->List (Key×D)->Prop where
 |nil:DPs X [] [] []
 |int {k v:Expr} {ks:List (Option Expr)} {vs:List Expr} {i:Int} {d:D} {kvs:List (Key×D)} (hk:PL X k (wC (.int i))) (hv:PL X v (wC d)) (hf:flatC d=true) (t:DPs X ks vs kvs):DPs X (some k::ks) (v::vs) ((.inl i,d)::kvs)
 |str {k v:Expr} {ks:List (Option Expr)} {vs:List Expr} {y:Str} {d:D} {kvs:List (Key×D)} (hk:PL X k (wC (.str y))) (hv:PL X v (wC d)) (hf:flatC d=true) (t:DPs X ks vs kvs):DPs X (some k::ks) (v::vs) ((.inr y,d)::kvs)
theorem DPs.run{pos:Pos}{ab:List (Addr×Obj)}{σ:St}{Pr:Hp}{Z:Ev}:∀{ks:List (Option Expr)}{vs:List Expr}{kvs:List (Key×D)},DPs X ks vs kvs->∀{H:Hp}{s:Shared}{Q:List (Value×Value)->Shared->Prop},Inv X ab σ H s->REnv X.K Pr H σ Z ->
  (∀(H':Hp)(s':Shared)(us:List (Value×Value))(ps:List (Key×V))(qs:List (Key×Value)),Inv X ab σ H' s'->REnv X.K Pr H' σ Z->Carries (mixKind X.prog X.w) us qs->KV ps qs->DR X.K H' ps kvs->Q us s') ->
  wpAny (model X.prog X.w) X.A (evalPairs (pairTrees ks vs X.env pos)) Q X.xe s
 |_,_,_,.nil,H,s,Q,I,E,h=>pairTrees_nil_walk (h H s [] [] [] I E True.intro .nil .nil)
 | _,_,_,.int (d:=d) hk hv hf t,H,s,Q,I,E,h=>by refine pairTrees_cons_walk (thn (hk ab s σ H Pr Z (λr Z'=>r=.d _/\Z'=Z) I E ⟨rfl,rfl⟩) λu s1 ⟨v,H1,r,Z',I1,rv,E1,e1,e2⟩=>?_);subst e1 e2;refine thn (hv ab s1 σ H1 Pr _ (λr Z'=>r=.d d/\Z'=_) I1 E1.tail ⟨rfl,rfl⟩) λu2 s2 ⟨v2,H2,r2,Z2,I2,rv2,E2,e1,e2⟩=>?_;subst e1 e2;obtain⟨_,z1,p1⟩:=E1.head_d;cases z1;cases p1;obtain⟨_,z2,p2⟩:=E2.head_d;cases z2;exact DPs.run t I2 E2.tail λH' s' us ps qs I3 E3 hc hk3 hd=>h H' s' ((u,u2)::us) ((.inl _,v2)::ps) ((.inl _,u2)::qs) I3 E3 ⟨kV_is rv,rfl,hc⟩ (.cons ⟨rfl,rv2⟩ hk3) (.cons ⟨rfl,p2.flatC hf⟩ hd)
 | _,_,_,.str (d:=d) hk hv hf t,H,s,Q,I,E,h=>by refine pairTrees_cons_walk (thn (hk ab s σ H Pr Z (λr Z'=>r=.d _/\Z'=Z) I E ⟨rfl,rfl⟩) λu s1 ⟨v,H1,r,Z',I1,rv,E1,e1,e2⟩=>?_);subst e1 e2;refine thn (hv ab s1 σ H1 Pr _ (λr Z'=>r=.d d/\Z'=_) I1 E1.tail ⟨rfl,rfl⟩) λu2 s2 ⟨v2,H2,r2,Z2,I2,rv2,E2,e1,e2⟩=>?_;subst e1 e2;obtain⟨_,z1,p1⟩:=E1.head_d;cases z1;cases p1;obtain⟨_,z2,p2⟩:=E2.head_d;cases z2;exact DPs.run t I2 E2.tail λH' s' us ps qs I3 E3 hc hk3 hd=>h H' s' ((u,u2)::us) ((.inr _,v2)::ps) ((.inr _,u2)::qs) I3 E3 ⟨kV_is rv,rfl,hc⟩ (.cons ⟨rfl,rv2⟩ hk3) (.cons ⟨rfl,p2.flatC hf⟩ hd)
theorem DPs.len:∀{ks:List (Option Expr)}{vs:List Expr}{kvs:List (Key×D)},DPs X ks vs kvs->ks.all (·.isSome)=true/\ks.length=vs.length/\ks.length=kvs.length
 |_,_,_,.nil=>⟨rfl,rfl,rfl⟩
 | _,_,_,.int _ _ _ t=>by obtain⟨h1,h2,h3⟩:=t.len;simp[h1,h2,<- h3]
 | _,_,_,.str _ _ _ t=>by obtain⟨h1,h2,h3⟩:=t.len;simp[h1,h2,<- h3]
end
end L2
namespace L2
open PySem PySem.Spec PyProof.Rows PySem.SeqAt
mutual
noncomputable def sameOk:Nat->D->Bool
 |_,.non=>true
 |_,.bl _=>true
 |_,.int _=>true
 |_,.str _=>true
 |n+1,.tup xs=>sameOks n xs
 |n+1,.lst xs=>sameOks n xs
 |n+1,.dct m=>m == 0
 |_,_=>false
noncomputable def sameOks:Nat->List D->Bool
 |_,[]=>true
 |n,x::xs=>sameOk n x && sameOks n xs
end
mutual
noncomputable def sgnD:D->Nat
 |.int _=>602
 |.str x=>10*x.length+2
 |.tup xs=>sgnDs xs+3
 |.lst xs=>sgnDs xs+3
 |_=>6
noncomputable def sgnDs:List D->Nat
 |[]=>0
 |x::xs=>sgnD x+2+sgnDs xs
end
mutual
theorem sgn_is:∀d:D,(toP d).leavesShort 601=true->(toP d).shown.length<=sgnD d
 |.non,_=>by decide
 |.bl b,_=>by cases b<;>decide
 | .int i,h=>by
  have e:(PyData.shown (.int i)).length<=601:=by simpa only[toP,PyData.leavesShort,bE]using h
  exact Nat.le_succ_of_le e
 | .str x,h=>by
  have hx:∀c∈x.cps.toList,c<16^8:=by simpa only[toP,PyData.leavesShort,bb,bE]using h
  have e:=PySem.StrLaws.reprText_len x hx
  simp only[toP,PyData.shown,sgnD]
  omega
 | .tup xs,h=>by
  have h1:=sgn_iss xs (by simpa only[toP,PyData.leavesShort]using h)
  have h2:=tupleText_len_le (PyData.shownAll (toPs xs))
  have h3:=PyData.shownAll_length (toPs xs)
  simp only[toP,PyData.shown,sgnD]
  omega
 | .lst xs,h=>by
  have h1:=sgn_iss xs (by simpa only[toP,PyData.leavesShort]using h)
  have h2:=listText_len_le (PyData.shownAll (toPs xs))
  have h3:=PyData.shownAll_length (toPs xs)
  simp only[toP,PyData.shown,sgnD]
  omega
 |.dct _,_=>by simp only[toP,sgnD];decide
 |.exc _ _ _,_=>by simp only[toP,sgnD];decide
 |.fn _ _,_=>by simp only[toP,sgnD];decide
 |.dk _ _,_=>by simp only[toP,sgnD];decide
 |.gf _,_=>by simp only[toP,sgnD];decide
theorem sgn_iss:∀ds:List D,PyData.leavesShortAll 601 (toPs ds)=true->((PyData.shownAll (toPs ds)).map (·.length)).sum+2*(toPs ds).length<=sgnDs ds
 |[],_=>by simp only[toPs,PyData.shownAll,List.map_nil,List.sum_nil,bq,sgnDs];omega
 | d::ds,h=>by
  have h':(toP d).leavesShort 601=true/\PyData.leavesShortAll 601 (toPs ds)=true:=by simpa only[toPs,PyData.leavesShortAll,aI]using h
  have h1:=sgn_is d h'.1
  have h2:=sgn_iss ds h'.2
  simp only[toPs,PyData.shownAll,aL,List.sum_cons,aK,sgnDs]
  omega
end
structure ReprL (d:D):Prop where
 ok:okD 40 d=true
 sh:shortD d=true
 ln:(toP d).shown.length<=sizeLine
theorem ReprOk.l{d:D}(h:ReprOk d):ReprL d:=⟨h.ok,h.sh,h.len⟩
end L2
namespace L2
open PySem PySem.Spec PyProof.Rows
end L2
namespace L2
open PySem PySem.Spec PyProof.Rows PySem.W
end L2
namespace L2
open PySem PySem.Spec PyProof.Rows
end L2
namespace L2
open PySem PySem.Spec PyProof.Rows PySem.SeqAt
mutual
noncomputable def okW:D->Bool
 |.dct n=>n == 0
 |.exc _ _ _=>false
 |.fn _ _=>false
 |.dk _ _=>false
 |.gf _=>false
 |.tup xs=>okWs xs
 |.lst xs=>okWs xs
 |.str x=>PyData.strOk x
 |_=>true
noncomputable def okWs:List D->Bool
 |[]=>true
 |x::xs=>okW x && okWs xs
end
mutual
theorem okW_short:∀d:D,okW d=true->shortD d=true->(toP d).leavesShort 601=true
 |.non,_,_=>rfl
 |.bl _,_,_=>rfl
 |.dct _,_,_=>rfl
 |.exc _ _ _,h,_=>by simp[okW]at h
 |.fn _ _,h,_=>by simp[okW]at h
 |.dk _ _,h,_=>by simp[okW]at h
 |.gf _,h,_=>by simp[okW]at h
 | .int i,_,h=>by
  have:=(short_is (.int i) h).1
  simpa only[toP,PyData.leavesShort,PyData.intsShort]using this
 |.str x,h,hs=>PyData.leavesShort_of_canLay0 601 (.str x) (by simpa only[okW,PyData.canLay0]using h) (short_is (.str x) hs).1
 | .tup xs,h,hs=>by
  have:=okWs_short xs (by simpa only[okW]using h) (by simpa only[shortD]using hs)
  simpa only[toP,PyData.leavesShort]using this
 | .lst xs,h,hs=>by
  have:=okWs_short xs (by simpa only[okW]using h) (by simpa only[shortD]using hs)
  simpa only[toP,PyData.leavesShort]using this
theorem okWs_short:∀ds:List D,okWs ds=true->shortDs ds=true->PyData.leavesShortAll 601 (toPs ds)=true
 |[],_,_=>rfl
 | d::ds,h,hs=>by
  simp only[okWs,aI]at h
  simp only[shortDs,aI]at hs
  simp only[toPs,PyData.leavesShortAll,okW_short d h.1 hs.1,okWs_short ds h.2 hs.2,Bool.and_self]
end
structure StrW (d:D):Prop where
 ok:okW d=true
 sh:shortD d=true
 dp:(toP d).depth<=40
 sg:sgnD d<=16777216
 ni:∀i,d≠.int i
theorem StrW.len{d:D}(h:StrW d):(toP d).shown.length<=sizeLine:=by
 have e:sizeLine=16777216:=by decide
 rw[e];exact aY (sgn_is d (okW_short d h.ok h.sh)) h.sg
end L2
namespace L2
open PySem PySem.Spec PyProof.Rows
section
def takeW(o:Option L)(i k:Nat)(Z:Ev)(af:L->Ev->Prop):Prop:=match o with
 |some (.bx none ls)=>∃l,ls[k]?=some l/\af l (Z.set i (.bx none (ls.set k .un)))
 |some (.d (.tup ds))=>∃d,ds[k]?=some d/\af (.d d) Z
 |_=>False
theorem takeW_bx(ls:List L)(i k:Nat)(Z:Ev)(af:L->Ev->Prop):takeW (some (.bx none ls)) i k Z af=∃l,ls[k]?=some l/\af l (Z.set i (.bx none (ls.set k .un))):=(rfl)
theorem takeW_d(ds:List D)(i k:Nat)(Z:Ev)(af:L->Ev->Prop):takeW (some (.d (.tup ds))) i k Z af=∃d,ds[k]?=some d/\af (.d d) Z:=(rfl)
end
section
def tupOf(r:L)(Z:Ev)(af:L->Ev->Prop):Prop:=match r with
 |.bx (some _) ls=>af (.bx none ls) Z
 |_=>False
theorem tupOf_bx(a:Addr)(ls:List L)(Z:Ev)(af:L->Ev->Prop):tupOf (.bx (some a) ls) Z af=af (.bx none ls) Z:=(rfl)
end
end L2
namespace L2
open PySem PySem.Spec PyProof.Rows PySem.W
theorem Un.one{P:Program}{w:World}{fs:List Addr}{H H':Hp}{h h':Heap}{c:Addr}{oc:Obj}(hc:H c=none)(gc:h.get? c=some oc)(cc:∀q,¬CodeOb oc q)(u:Un fs [] (upd H c (.frz oc (.own c))) H' h h')(ok:HOk P w H' h') :
  Un fs [] H (del H' c) h h'/\HOk P w (del H' c) h':=by
 have zc:H' c=some (.frz oc (.own c)):=u.frzs c oc _ upd_same;have gc':h'.get? c=some oc:=(ok c _ zc).1;have nz:∀b o,H' b=some o->o≠.frz oc (.own c)->b≠c:=λb o e n z=>by subst z;rw[zc]at e;cases e;exact n rfl
 refine⟨⟨λb o e n hb hx=>?_,λb o e n hb hx=>?_,λb o e n hx=>?_,λb o e hx=>u.there b o e hx,λb xs e=>?_,λb o v e=>?_,λb t e=>?_⟩,λb o e=>?_⟩
 .
  by_cases z:b=c
  . subst z;rw[gc]at e;cases e;exact gc'
  . exact u.keep b o e (by rw[upd_ne z];exact n) hb hx
 .
  by_cases z:b=c
  . subst z;rw[gc]at e;cases e;exact⟨oc.slots,gc'⟩
  . exact u.slot b o e (by rw[upd_ne z];exact n) hb hx
 .
  by_cases z:b=c
  . subst z;exact del_self
  . rw[del_ne z];exact u.free b o e (by rw[upd_ne z];exact n) hx
 . have z:=ne_of_none e hc;rw[del_ne z];exact u.tups b xs (by rw[upd_ne z];exact e)
 . have z:=ne_of_none e hc;rw[del_ne z];exact u.frzs b o v (by rw[upd_ne z];exact e)
 . have z:=ne_of_none e hc;rw[del_ne z];exact u.tbls b t (by rw[upd_ne z];exact e)
 .
  have hb:b≠c:=λz=>by subst z;rw[del_self]at e;cases e
  rw[del_ne hb]at e;refine(ok b o e).stay (λ_ _ _ z=>z) (λd z=>?_) (λd xs z=>?_) λd od q co z=>?_
  . rw[del_ne (nz d _ z λy=>nomatch y)];exact z
  . rw[del_ne (nz d _ z λy=>nomatch y)];exact z
  . rw[del_ne (nz d _ z λy=>by cases y;exact cc q co)];exact z
end L2
namespace L2
open PySem PySem.W
end L2
namespace L2
open PySem PySem.Spec PyProof.Rows PySem.SeqAt
structure RepW (d:D):Prop where
 ok:okW d=true
 sh:shortD d=true
 dp:(toP d).depth<=40
 sg:sgnD d<=16777216
theorem RepW.len{d:D}(h:RepW d):(toP d).shown.length<=sizeLine:=by
 have e:sizeLine=16777216:=by decide
 rw[e];exact aY (sgn_is d (okW_short d h.ok h.sh)) h.sg
end L2
namespace L2
open PySem PySem.Spec PyProof.Rows
def pkS(o q:Option L)(i j:Nat)(t:W L)(Z:Ev)(af:L->Ev->Prop):Prop:=match o,q with
 |some (.own _ xs),some (.own b _)=>i≠j/\flatOwn i Z=true/\t (Z.set i (.d (.lst xs))) λr Z'=>noLr r=true/\∃zs,noLs zs=true/\Z'=(Z.set i (.d (.lst xs))).set j (.own b zs)/\af r (Z.set j (.own b zs))
 |_,_=>False
theorem pkS_own(a b:Addr)(xs ys:List D)(i j:Nat)(t:W L)(Z:Ev)(af:L->Ev->Prop):pkS (some (.own a xs)) (some (.own b ys)) i j t Z af=(i≠j/\flatOwn i Z=true/\t (Z.set i (.d (.lst xs))) λr Z'=>noLr r=true/\∃zs,noLs zs=true/\Z'=(Z.set i (.d (.lst xs))).set j (.own b zs)/\af r (Z.set j (.own b zs))):=(rfl)
def trdW(o:Option L)(Z:Ev)(af:Bool->Ev->Prop):Prop:=match o with
 |some (.d (.lst xs))=>af (!xs.isEmpty) Z
 |_=>False
theorem trdW_lst(xs:List D)(Z:Ev)(af:Bool->Ev->Prop):trdW (some (.d (.lst xs))) Z af=af (!xs.isEmpty) Z:=(rfl)
end L2
namespace HT
open PySem PySem.Spec PyProof.Rows
end HT
namespace L2
open PySem PySem.Spec PyProof.Rows
end L2
namespace L2
open PySem PySem.Spec PyProof.Rows PySem.W
end L2
namespace L2
open PySem PySem.Spec PyProof.Rows PySem.SeqAt
end L2
namespace PySem
open PySem.Spec
namespace F
end F
end PySem
namespace L2
open PySem PySem.Spec PyProof.Rows PySem.W
section
variable{key:Nat->Int}{n:Nat}{I:Shared->Prop}{cmp:Nat->Nat->(Bool->Shared->Prop)->Shared->Prop}
def KTok(I:Shared->Prop)(cmp:Nat->Nat->(Bool->Shared->Prop)->Shared->Prop){α:Type}(t:KasT α)(P:α->Prop):Prop:=∀(Q:α->Shared->Prop)(s:Shared),I s->(∀a s',I s'->P a->Q a s')->t.kasWp cmp Q s
def KCmp(key:Nat->Int)(n:Nat)(I:Shared->Prop)(cmp:Nat->Nat->(Bool->Shared->Prop)->Shared->Prop):Prop:=∀(i j:Nat)(C:Bool->Shared->Prop)(s:Shared),i<n->j<n->i≠j->I s->(∀s',I s'->C (decide (key i<key j)) s')->cmp i j C s
noncomputable def kk(key:Nat->Int)(p:Array Nat)(i:Nat):Int:=key (p.getD i 0)
structure KGood (n:Nat) (p:Array Nat):Prop where
 sz:p.size=n
 pm:p.toList.Perm (List.range n)
theorem KGood.lt{p:Array Nat}(g:KGood n p){i:Nat}(h:i<n):p.getD i 0<n:=by
 have hs:i<p.size:=by rw[g.sz];exact h
 have e:p.getD i 0=p[i]:=by simp[Array.getD,hs]
 rw[e];exact List.mem_range.mp (g.pm.mem_iff.mp (by rw[<- Array.getElem_toList];exact List.getElem_mem _))
theorem KGood.ne{p:Array Nat}(g:KGood n p){i j:Nat}(hi:i<n)(hj:j<n)(h:i≠j):p.getD i 0≠p.getD j 0:=by
 have hs:i<p.size:=by rw[g.sz];exact hi
 have ht:j<p.size:=by rw[g.sz];exact hj
 have nd:p.toList.Nodup:=g.pm.nodup_iff.mpr List.nodup_range;have e1:p.getD i 0=p.toList[i]'(by simpa using hs):=by simp[Array.getD,hs]
 have e2:p.getD j 0=p.toList[j]'(by simpa using ht):=by simp[Array.getD,ht]
 rw[e1,e2];intro z;exact h ((List.getElem_inj nd).mp z)
theorem KTok.ask{α:Type}{i j:Nat}{k:Bool->KasT α}{P:α->Prop}(hc:KCmp key n I cmp)(hi:i<n)(hj:j<n)(hn:i≠j)(h1:key i<key j->KTok I cmp (k true) P)(h2:¬key i<key j->KTok I cmp (k false) P):KTok I cmp (.ask i j k) P:=λQ s hI hq=>by
 refine hc i j _ s hi hj hn hI λs' hI'=>?_;by_cases c:key i<key j
 . rw[bz c];exact h1 c Q s' hI' hq
 . rw[aZ c];exact h2 c Q s' hI' hq
theorem KTok.mono{α:Type}{t:KasT α}{P R:α->Prop}(h:KTok I cmp t P)(hr:∀a,P a->R a):KTok I cmp t R:=λQ s hI hq=>h Q s hI λa s' hI' ha=>hq a s' hI' (hr a ha)
theorem KTok.at{α:Type}{p:Array Nat}{i j:Nat}{k:Bool->KasT α}{P:α->Prop}(hc:KCmp key n I cmp)(hq:∀a b,a<n->b<n->key a=key b->a=b)(g:KGood n p)(hi:i<n)(hj:j<n)(hn:i≠j)(h1:kk key p i<kk key p j->KTok I cmp (k true) P)(h2:kk key p j<kk key p i->KTok I cmp (k false) P):KTok I cmp (.ask (p.getD i 0) (p.getD j 0) k) P:=by refine KTok.ask hc (g.lt hi) (g.lt hj) (g.ne hi hj hn) h1 λc=>h2 ?_;have:kk key p i≠kk key p j:=λz=>g.ne hi hj hn (hq _ _ (g.lt hi) (g.lt hj) z);unfold kk at this ⊢;omega
end
theorem Reps.at{K:Frag}{H:Hp}{vs:List V}{ds:List D}(r:Reps K H vs ds){i:Nat}(h1:i<vs.length)(h2:i<ds.length):Rep K H vs[i] ds[i]:=by obtain⟨v,e1,e2⟩:=r.get (aA h2);rw[aA h1]at e1;cases e1;exact e2
end L2
namespace L2
open PySem PySem.Spec PyProof.Rows PySem.Builtin.Str
section
variable{X:Cx}{o e a b c:Expr}{es rest:List Expr}{pos p apos cpos:Pos}{to te:W L}{x y:Str}
theorem isStrL{f:Str->Prop}:∀{r:L},(match r with | .d (.str x)=>f x|_=>False)->∃z,r=.d (.str z)
 |.d (.str z),_=>⟨z,rfl⟩
def rStarts:V->List V->Hp->VK->Prop:=λx vs H Q=>∃z y,x=.str z/\vs=[.str y]/\Q (.bl (Txt.startswith z y)) H
theorem mt_starts:MtR X "str.startswith" rStarts:=by intro ab s σ H x vs v us Q I rx rv h;obtain⟨z,y,rfl,rfl,q⟩:=h;obtain⟨t,rfl⟩:=rx;obtain⟨u,rfl,ru⟩:=rv.one;obtain⟨t',rfl⟩:=ru;exact SC.startswith ⟨.bl _,H,I,rfl,q⟩
def wStarts(to:W L)(y:Str):W L:=λZ af=>to Z λr Z1=>match r with
 |.d (.str x)=>af (.d (.bl (Txt.startswith x y))) Z1
 |_=>False
theorem pl_starts{y:Str}{j:Nat}{pz:Pos}(ho:PL X o to)(hs1:starEach [.Constant (.str y) j pz] X.env=[(false,eval (.Constant (.str y) j pz) X.env)]:=by rfl) (hbase:attributeBase o "startswith" X.env (eval o X.env)=eval o X.env:=by rfl)
  (hfew:((backTo cpos (starEach [.Constant (.str y) j pz] X.env)).all (λx=>!x.1) && (backToKw cpos (keywordEach [] X.env)).all (λx=>x.1.isSome)
   && decide (([Expr.Constant (.str y) j pz]).length+([]:List Keyword).length+(if([]:List Keyword).isEmpty then 0 else 1)<30))=true:=by rfl)
  (hline:(apos.endLine == cpos.line)=true:=by rfl) (hplain:(backTo cpos (starEach ([]:List Expr) X.env)).any (·.1)=false:=by rfl) :
  PL X (.Call (.Attribute o "startswith" apos) [.Constant (.str y) j pz] [] cpos) (wStarts to y):=by
 refine PL.of (pe_bm bK PySem.F.slot_str_startswith PySem.F.type_str_startswith mt_starts ho.pe (pa_cons pe_str pa_nil hs1) (hbase:=hbase) (hfew:=hfew) (hline:=hline) (hs:=hs1) (hplain:=hplain)) λσ H Pr Z af E h=>?_;refine⟨Pr,Z,_,E,h,λv H' r Z' E' pp=>?_⟩;obtain⟨z,rfl⟩:∃z,r=.d (.str z):=isStrL pp;obtain⟨_,e1,p1⟩:=E'.head_d;cases e1;cases p1;exact⟨rfl,z,y,rfl,rfl,_,_,E'.tail.cons_d (.bl _),pp⟩
theorem spl_new{prog:Program}{w:World}{A:Around}{E:Value->Shared->Prop}{s:Shared}{t u:Tok}{Q:Value->Shared->Prop}(hy:(y.length == 0)=false)(h1:x.length<=sizeLine)(h2:(Txt.split x y).length<=sizeLine)
  (hq:∀(tk:Nat)(l:List (Str×Tok)),l.map (·.1)=Txt.split x y->Q (.ref s.heap.objs.size) {s with heap:=s.heap.push {cls:=.type "list",data:=.seq (strValues l).toArray},toks:=tk}) :
  wpAny (model prog w) A (call (.builtin "str.split") [.str x t,.str y u]) Q E s:=by
 by_cases c:(decide (x.length<y.length) ||decide (strKind x<strKind y))=true
 . refine call_meets F.slot_str_split (typeIs_str _ _ _) F.entry_str_split (F.args_str_split_2 _ _) (meets_str_split_cannot_occur x y t u c) ?_;exact hq _ [(x,t)] (by unfold Txt.split;rw[if_pos c];rfl)
 .
  have c':=Bool.eq_false_iff.mpr c;by_cases d:(occurrences x y 0 x.length (x.length+1)).isEmpty=true
  . refine call_meets F.slot_str_split (typeIs_str _ _ _) F.entry_str_split (F.args_str_split_2 _ _) (meets_str_split_not_found x y t u c' hy d) ?_;exact hq _ [(x,t)] (by unfold Txt.split;rw[if_neg c,if_pos d];rfl)
  .
   have d':=Bool.eq_false_iff.mpr d;have es:Txt.split x y=partsBetween x (occurrences x y 0 x.length (x.length+1)) y.length:=by unfold Txt.split;rw[if_neg c,if_neg d]
   rw[es]at h2;refine call_meets F.slot_str_split (typeIs_str _ _ _) F.entry_str_split (F.args_str_split_2 _ _) (meets_str_split_sep x y t u c' hy d' h1 h2) ?_;have:=hq (s.toks+(partsBetween x (occurrences x y 0 x.length (x.length+1)) y.length).length) (numbered s.toks (partsBetween x (occurrences x y 0 x.length (x.length+1)) y.length)) (by unfold Txt.split;rw[if_neg c,if_neg d];exact numbered_texts _ _);rw[<- strsFrom_eq]at this;exact this
theorem vals_strV:∀(l:List (Str×Tok))(zs:List Str),l.map (·.1)=zs->Vals (zs.map V.str) (strValues l)
 |[],_,rfl=>.nil
 |p::l,_,rfl=>.cons ⟨p.2,rfl⟩ (vals_strV l _ rfl)
theorem reps_ofS{K:PySem.W.Frag}{H:Hp}:∀zs:List Str,Reps K H (zs.map V.str) (zs.map D.str)
 |[]=>.nil
 |z::zs=>.cons (.str z) (reps_ofS zs)
def SplOk(x y:Str):Prop:=(y.length == 0)=false/\x.length<=sizeLine/\(Txt.split x y).length<=sizeLine
def rSplit:V->List V->Hp->VK->Prop:=λx vs H Q=>∃z y,x=.str z/\vs=[.str y]/\SplOk z y/\∀p,H p=none->Q (.ref p) (upd H p (.lst ((Txt.split z y).map V.str)))
theorem mt_split:MtR X "str.split" rSplit:=by intro ab s σ H x vs v us Q I rx rv h;obtain⟨z,y,rfl,rfl,⟨k1,k2,k4⟩,q⟩:=h;obtain⟨t,rfl⟩:=rx;obtain⟨u,rfl,ru⟩:=rv.one;obtain⟨t',rfl⟩:=ru;refine spl_new k1 k2 k4 λtk l e=>⟨.ref _,_,I.lnew (t':=tk) (vals_strV l _ e) (by rw[aF];exact k4),rfl,q _ I.fresh⟩
def wSplit(to:W L)(y:Str):W L:=λZ af=>to Z λr Z1=>match r with
 |.d (.str x)=>SplOk x y/\∀a,af (.own a ((Txt.split x y).map D.str)) Z1
 |_=>False
theorem pl_split{y:Str}{j:Nat}{pz:Pos}(ho:PL X o to)(hs1:starEach [.Constant (.str y) j pz] X.env=[(false,eval (.Constant (.str y) j pz) X.env)]:=by rfl) (hbase:attributeBase o "split" X.env (eval o X.env)=eval o X.env:=by rfl)
  (hfew:((backTo cpos (starEach [.Constant (.str y) j pz] X.env)).all (λx=>!x.1) && (backToKw cpos (keywordEach [] X.env)).all (λx=>x.1.isSome)
   && decide (([Expr.Constant (.str y) j pz]).length+([]:List Keyword).length+(if([]:List Keyword).isEmpty then 0 else 1)<30))=true:=by rfl)
  (hline:(apos.endLine == cpos.line)=true:=by rfl) (hplain:(backTo cpos (starEach ([]:List Expr) X.env)).any (·.1)=false:=by rfl) :
  PL X (.Call (.Attribute o "split" apos) [.Constant (.str y) j pz] [] cpos) (wSplit to y):=by
 refine PL.of (pe_bm bK PySem.F.slot_str_split PySem.F.type_str_split mt_split ho.pe (pa_cons pe_str pa_nil hs1) (hbase:=hbase) (hfew:=hfew) (hline:=hline) (hs:=hs1) (hplain:=hplain)) λσ H Pr Z af E h=>?_;refine⟨Pr,Z,_,E,h,λv H' r Z' E' pp=>?_⟩;obtain⟨z,rfl⟩:∃z,r=.d (.str z):=isStrL pp;obtain⟨ok,pp⟩:=pp;obtain⟨_,e1,p1⟩:=E'.head_d;cases e1;cases p1;exact⟨rfl,z,y,rfl,rfl,ok,λp hp=>⟨_,_,E'.tail.cons_own hp (reps_ofS _),pp p⟩⟩
theorem call_intT:CallR X (.type "int") (λxs H Q=>∃ z n,xs=[.str z]/\z.length<=640/\PySem.intText? z=some n/\Q (.int n) H):=by intro ab s σ H xs us Q I r h;obtain⟨z,n,rfl,hl,hn,q⟩:=h;obtain⟨u,rfl,t,rfl⟩:=vals1 r;exact PySem.W.KIN.call_text hn hl ⟨.int n,H,I.tok _,⟨_,rfl⟩,q⟩
def opIntT:OpN:=λds k=>match ds with
 |[.str z]=>∃n,z.length<=640/\PySem.intText? z=some n/\k (.d (.int n))
 |_=>False
theorem cd_intT:CallD X (.type "int") opIntT:=CallD.of call_intT λσ H Pr Z vs ds af E ps h=>by
 unfold opIntT at h;split at h
 case h_2=>exact h.elim
 rename_i z;obtain⟨n,hl,hn,h⟩:=h;obtain⟨v,rfl,r⟩:=reps1 ps;cases r;exact⟨z,n,rfl,hl,hn,_,E.cons_d (.int _),h⟩
theorem call_strI:CallR X (.type "str") (λxs H Q=>∃ n,xs=[.int n]/\n.natAbs.log2 < 1920/\Q (.str (Str.ofString (toString n))) H):=by intro ab s σ H xs us Q I r h;obtain⟨n,rfl,hl,q⟩:=h;obtain⟨u,rfl,t,rfl⟩:=vals1 r;exact PySem.P.str_of_int hl ⟨.str _,H,I.tok _,⟨_,rfl⟩,q⟩
def opStrI:OpN:=λds k=>match ds with
 |[.int n]=>n.natAbs.log2<1920/\k (.d (.str (Str.ofString (toString n))))
 |_=>False
theorem cd_strI:CallD X (.type "str") opStrI:=CallD.of call_strI λσ H Pr Z vs ds af E ps h=>by
 unfold opStrI at h;split at h
 case h_2=>exact h.elim
 rename_i n;obtain⟨hl,h⟩:=h;obtain⟨v,rfl,r⟩:=reps1 ps;cases r;exact⟨n,rfl,hl,_,E.cons_d (.str _),h⟩
def wFmt(te:W L):W L:=λZ af=>te Z λr Z1=>match r with
 |.d (.int i)=>i.natAbs.log2<1920/\af (.d (.str (Str.ofString (toString i)))) Z1
 |.d (.str x)=>x.length<=sizeLine/\af (.d (.str x)) Z1
 |_=>False
theorem isFmt{f:Int->Prop}{g:Str->Prop}:∀{r:L},(match r with | .d (.int i)=>f i | .d (.str x)=>g x|_=>False)->(∃i,r=.d (.int i))∨∃z,r=.d (.str z)
 |.d (.int i),_=>.inl ⟨i,rfl⟩
 |.d (.str z),_=>.inr ⟨z,rfl⟩
theorem pl_fmt(he:PL X e te):PL X (.FormattedValue e (-1) none pos) (wFmt te):=by
 intro ab s σ H Pr Z af I E h;refine FormattedValue_plain (thn (he ab s σ H Pr Z _ I E h) λu s1 ⟨v,H1,r,Z',I1,rv,E1,pp⟩=>?_);rcases isFmt pp with⟨i,rfl⟩|⟨x,rfl⟩
 . obtain⟨hi,pp⟩:=pp;obtain⟨_,e1,p1⟩:=E1.head_d;cases e1;cases p1;obtain⟨t,rfl⟩:=rv;exact formatField_int_small hi ⟨.str _,H1,_,Z',I1.tok _,⟨_,rfl⟩,E1.tail.cons_d (.str _),pp⟩
 . obtain⟨hx,pp⟩:=pp;obtain⟨_,e1,p1⟩:=E1.head_d;cases e1;cases p1;obtain⟨t,rfl⟩:=rv;exact formatField_str (λt' tk=>⟨.str _,H1,_,Z',I1.tok _,⟨_,rfl⟩,E1.tail.cons_d (.str _),pp⟩) hx
def wCat:List (W L)->Str->W L
 |[],out=>λZ af=>out.length<=sizeLine/\af (.d (.str out)) Z
 | t::ts,out=>λZ af=>t Z λr Z1=>match r with
  |.d (.str y)=>(out++y).length<=sizeLine/\wCat ts (out++y) Z1 af
  |_=>False
inductive PLs (X:Cx):List Expr->List (W L)->Prop
 |nil:PLs X [] []
 |cons {e:Expr} {es:List Expr} {t:W L} {ts:List (W L)} (h:PL X e t) (hs:PLs X es ts):PLs X (e::es) (t::ts)
theorem pls_join{ab:List (Addr×Obj)}{σ:St}{Pr:Hp}{af:L->Ev->Prop}:∀{es:List Expr}{ts:List (W L)},PLs X es ts->∀(out:Str)(s:Shared)(H:Hp)(Z:Ev),Inv X ab σ H s->REnv X.K Pr H σ Z->wCat ts out Z af ->
  wpAny (model X.prog X.w) X.A (joinParts out (evalEach es X.env)) (EL X ab σ Pr af) X.xe s:=by
 intro es ts hs
 induction hs with
 | nil =>
  intro out s H Z I E h;exact joinParts_nil ⟨.str _,H,_,Z,I.tok _,⟨_,rfl⟩,E.cons_d (.str _),h.2⟩ h.1
 | cons he _ ih =>
  intro out s H Z I E h;refine joinParts_cons (thn (he ab s σ H Pr Z _ I E h) λu s1 ⟨v,H1,r,Z',I1,rv,E1,pp⟩=>?_);obtain⟨y,rfl⟩:∃z,r=.d (.str z):=isStrL pp;obtain⟨hy,pp⟩:=pp;obtain⟨_,e1,p1⟩:=E1.head_d;cases e1;cases p1;obtain⟨t,rfl⟩:=rv;exact⟨hy,ih _ s1 H1 Z' I1 E1.tail pp⟩
theorem pl_fstr{ts:List (W L)}{t1 t2:W L}(h1:PL X a t1)(h2:PL X b t2)(hs:PLs X rest ts):PL X (.JoinedStr (a::b::rest) pos) (wCat (t1::t2::ts) Str.empty) :=
 λab s σ H Pr Z af I E h=>JoinedStr_many (pls_join (.cons h1 (.cons h2 hs)) _ s H Z I E h)
end
end L2
namespace L2
open PySem PySem.Spec PyProof.Rows
section
def strAt(o:Option L)(P:Prop):Prop:=match o with
 |some (.d (.str _))=>P
 |_=>False
theorem strAt_s(x:Str)(P:Prop):strAt (some (.d (.str x))) P=P:=(rfl)
end
end L2
namespace L2
open PySem PySem.Spec PyProof.Rows PySem.Builtin.Str
def gfIs(x:Str)(d:D)(P:Prop):Prop:=match d with
 |.gf z=>z=x/\P
 |_=>False
theorem gfIs_of(x:Str)(P:Prop):gfIs x (.gf x) P=P:=propext ⟨λh=>h.2,λh=>⟨rfl,h⟩⟩
section
variable{o:Expr}
def strK(o:Option L)(k:Str->Prop):Prop:=match o with
 |some (.d (.str x))=>k x
 |_=>False
theorem strK_s(x:Str)(k:Str->Prop):strK (some (.d (.str x))) k=k x:=(rfl)
end
end L2
namespace L2
open PySem PySem.Spec PyProof.Rows PySem.Builtin PySem.Builtin.Str
section
variable{X:Cx}{o e a b c:Expr}{es:List Expr}{pos p apos cpos:Pos}{to ta tb tc:W L}{x y:Str}
def rEnds:V->List V->Hp->VK->Prop:=λx vs H Q=>∃z y,x=.str z/\vs=[.str y]/\Q (.bl (Txt.endswith z y)) H
theorem mt_ends:MtR X "str.endswith" rEnds:=by intro ab s σ H x vs v us Q I rx rv h;obtain⟨z,y,rfl,rfl,q⟩:=h;obtain⟨t,rfl⟩:=rx;obtain⟨u,rfl,ru⟩:=rv.one;obtain⟨t',rfl⟩:=ru;exact SC.endswith ⟨.bl _,H,I,rfl,q⟩
def wEnds(to:W L)(y:Str):W L:=λZ af=>to Z λr Z1=>match r with
 |.d (.str x)=>af (.d (.bl (Txt.endswith x y))) Z1
 |_=>False
theorem pl_ends{y:Str}{j:Nat}{pz:Pos}(ho:PL X o to)(hs1:starEach [.Constant (.str y) j pz] X.env=[(false,eval (.Constant (.str y) j pz) X.env)]:=by rfl) (hbase:attributeBase o "endswith" X.env (eval o X.env)=eval o X.env:=by rfl)
  (hfew:((backTo cpos (starEach [.Constant (.str y) j pz] X.env)).all (λx=>!x.1) && (backToKw cpos (keywordEach [] X.env)).all (λx=>x.1.isSome)
   && decide (([Expr.Constant (.str y) j pz]).length+([]:List Keyword).length+(if([]:List Keyword).isEmpty then 0 else 1)<30))=true:=by rfl)
  (hline:(apos.endLine == cpos.line)=true:=by rfl) (hplain:(backTo cpos (starEach ([]:List Expr) X.env)).any (·.1)=false:=by rfl) :
  PL X (.Call (.Attribute o "endswith" apos) [.Constant (.str y) j pz] [] cpos) (wEnds to y):=by
 refine PL.of (pe_bm bK PySem.F.slot_str_endswith PySem.F.type_str_endswith mt_ends ho.pe (pa_cons pe_str pa_nil hs1) (hbase:=hbase) (hfew:=hfew) (hline:=hline) (hs:=hs1) (hplain:=hplain)) λσ H Pr Z af E h=>?_;refine⟨Pr,Z,_,E,h,λv H' r Z' E' pp=>?_⟩;obtain⟨z,rfl⟩:∃z,r=.d (.str z):=isStrL pp;obtain⟨_,e1,p1⟩:=E'.head_d;cases e1;cases p1;exact⟨rfl,z,y,rfl,rfl,_,_,E'.tail.cons_d (.bl _),pp⟩
noncomputable def ptnV(x y:Str):List V:=[.str (Txt.partition x y).1,.str (Txt.partition x y).2.1,.str (Txt.partition x y).2.2]
noncomputable def ptnD(x y:Str):List D:=[.str (Txt.partition x y).1,.str (Txt.partition x y).2.1,.str (Txt.partition x y).2.2]
def rPtn:V->List V->Hp->VK->Prop:=λx vs H Q=>∃z y,x=.str z/\vs=[.str y]/\((y.length == 0)=false/\z.length<=sizeLine)/\∀p,H p=none->Q (.ref p) (upd H p (.tup (ptnV z y)))
theorem mt_ptn:MtR X "str.partition" rPtn:=by
 intro ab s σ H x vs v us Q I rx rv h;obtain⟨x,y,rfl,rfl,⟨k1,k2⟩,q⟩:=h;obtain⟨t,rfl⟩:=rx;obtain⟨u,rfl,ru⟩:=rv.one;obtain⟨t',rfl⟩:=ru;have key:∀(ta tb tc:Tok)(k:Nat),∃ v' H',Inv X ab σ H' {s with heap:=s.heap.push {cls:=.type "tuple",data:=.seq [.str (Txt.partition x y).1 ta,.str (Txt.partition x y).2.1 tb,.str (Txt.partition x y).2.2 tc].toArray},toks:=k}/\RelV v' (.ref s.heap.objs.size)/\Q v' H':=λta tb tc k=>by refine⟨.ref _,_,?_,rfl,q _ I.fresh⟩;exact I.laid (λb ob q=>av _ q) (ao _) ⟨by show 3<=sizeLine;decide,_,.cons ⟨ta,rfl⟩ (.cons ⟨tb,rfl⟩ (.cons ⟨tc,rfl⟩ .nil)),⟨_,aS _ rfl,rfl,_,rfl⟩⟩
 refine call_meets F.slot_str_partition (typeIs_str _ _ _) F.entry_str_partition (F.args_str_partition_2 _ _) (meets_str_partition x y t t' k1 k2) ?_;unfold Txt.partition at key
 revert key
 cases occurrences x y 0 x.length 1 with
 |nil=>intro key;exact key _ _ _ _
 |cons i r=>intro key;exact key _ _ _ _
def wPtn(to:W L)(y:Str):W L:=λZ af=>to Z λr Z1=>match r with
 |.d (.str x)=>((y.length == 0)=false/\x.length<=sizeLine)/\af (.d (.tup (ptnD x y))) Z1
 |_=>False
theorem pl_ptn{y:Str}{j:Nat}{pz:Pos}(ho:PL X o to)(hs1:starEach [.Constant (.str y) j pz] X.env=[(false,eval (.Constant (.str y) j pz) X.env)]:=by rfl) (hbase:attributeBase o "partition" X.env (eval o X.env)=eval o X.env:=by rfl)
  (hfew:((backTo cpos (starEach [.Constant (.str y) j pz] X.env)).all (λx=>!x.1) && (backToKw cpos (keywordEach [] X.env)).all (λx=>x.1.isSome)
   && decide (([Expr.Constant (.str y) j pz]).length+([]:List Keyword).length+(if([]:List Keyword).isEmpty then 0 else 1)<30))=true:=by rfl)
  (hline:(apos.endLine == cpos.line)=true:=by rfl) (hplain:(backTo cpos (starEach ([]:List Expr) X.env)).any (·.1)=false:=by rfl) :
  PL X (.Call (.Attribute o "partition" apos) [.Constant (.str y) j pz] [] cpos) (wPtn to y):=by
 refine PL.of (pe_bm bK PySem.F.slot_str_partition PySem.F.type_str_partition mt_ptn ho.pe (pa_cons pe_str pa_nil hs1) (hbase:=hbase) (hfew:=hfew) (hline:=hline) (hs:=hs1) (hplain:=hplain)) λσ H Pr Z af E h=>?_;refine⟨Pr,Z,_,E,h,λv H' r Z' E' pp=>?_⟩;obtain⟨z,rfl⟩:∃z,r=.d (.str z):=isStrL pp;obtain⟨ok,pp⟩:=pp;obtain⟨_,e1,p1⟩:=E'.head_d;cases e1;cases p1;exact⟨rfl,z,y,rfl,rfl,ok,λp hp=>⟨_,_,(E'.tail.new hp).cons_d (.tup (.inl (.inl upd_same)) (.cons (.str _) (.cons (.str _) (.cons (.str _) .nil)))),pp⟩⟩
noncomputable def Ites(x:Str):It :=
 ⟨λi _=>i<x.cps.size,λi H v H'=>∃p c,x.cps[i]?=some c/\v=.ref p/\H p=none/\H'=upd H p (.tup [.int i,.str ⟨#[c]⟩]),λi _=>x.cps.size<=i⟩
theorem turn_enumS{P:Program}{w:World}{K:PySem.W.Frag}{k:Nat}(q it:Addr)(x:Str)(t:Tok)(hne:q≠it):Turn P w K (.Tuple es k pos) (Ites x) [q,it] q (λi h=>(∃ old,IsEnum h q it i old)/\h.IsStrIter it "str_ascii_iterator" x t i) where
 mem:=by simp
 obj:=λi h st b hb=>by
  obtain⟨⟨old,he⟩,o,e,c,d⟩:=st;rcases az.mp hb with rfl|hb
  .
   exact⟨_,he,λv z=>by
    have z':Data.fields _=Data.cell v:=z
    cases z'⟩
  .
   have e':b=it:=by simpa using hb
   subst e';exact⟨o,e,λv z=>by rw[d]at z;cases z⟩
 keep:=λi h h' st kk=>⟨let ⟨old,he⟩:=st.1;⟨old,kk q zY _ he⟩,by
  obtain⟨o,e,c,d⟩:=st.2
  exact⟨o,kk it zY o e,c,d⟩⟩
 item:=by
  intro X hP hw hK hc i ab s σ H E I hf st hg;subst hP hw hK;obtain⟨⟨old,he⟩,hit⟩:=st;have D:=Draws.strAscii (prog:=X.prog) (w:=X.w) (A:=X.A.in1) (I.ok.hd hc) it x t;refine wpAny_pyNext_enum_itemD D he hit hg hne (by simp[hne]) λx' h' tk hPx hout hst' htup hsz hk=>?_;obtain⟨c,u,hx,rfl⟩:=hPx;refine⟨.ref s.heap.objs.size,rfl,wpAny_letOwnedTupleGo_enum (s:={s with heap:=h',toks:=tk+1}) hout λh'' he'' hs''=>?_⟩;have qlt:q<s.heap.objs.size:=ay he;have ilt:it<s.heap.objs.size:=by obtain⟨o,e,_⟩:=hit;exact ay e
  have I1:Inv X ab σ (upd H s.heap.objs.size (.tup [.int i,.str ⟨#[c]⟩])) {s with heap:=s.heap.push {cls:=.type "tuple",data:=.seq #[.int i tk,.str ⟨#[c]⟩ u] },toks:=tk} :=
   I.laid (λb ob q=>av _ q) (ao _) ⟨by show 2<=sizeLine;decide,[.int i tk,.str ⟨#[c]⟩ u],.cons ⟨tk,rfl⟩ (.cons ⟨u,rfl⟩ .nil),⟨_,aS _ rfl,rfl,_,rfl⟩⟩
  have hf1:∀b∈[q,it],FpOk X ab (upd H s.heap.objs.size (.tup [.int i,.str ⟨#[c]⟩])) b:=λb hb=>by
   refine⟨?_,(hf b hb).2⟩;rw[upd_ne ?_]
   . exact(hf b hb).1
   .
    rcases az.mp hb with rfl|hb
    . exact bc qlt
    . rw[aP.mp hb];exact bc ilt
  have I2:=I1.turnedL (h':=h'') (t':=tk+1) (fp:=[q,it]) (λb o hb e=>by
   have hbq:b≠q:=λz=>hb (by simp[z]);have hbi:b≠it:=λz=>hb (by simp[z]);refine(hs''.2 b hbq).trans ?_;rcases Heap.get?_push_cases e with⟨rfl,rfl⟩|e
   . exact htup
   .
    exact hk b o hbq hbi e) hf1
  refine⟨.ref s.heap.objs.size,_,I2,rfl,⟨_,c,hx,rfl,I.fresh,rfl⟩,⟨⟨_,by simpa using he''⟩,?_⟩,λb hb=>(hf1 b hb).1⟩;obtain⟨o,e,c1,d⟩:=hst';exact⟨o,(hs''.2 it (Ne.symm hne)).trans e,c1,d⟩
 done:=by
  intro X hP hw hK hc i ab s σ H E I hf st hg;subst hP hw hK;obtain⟨⟨old,he⟩,hit⟩:=st;have hT:s.TypeIs (.ref q) "enumerate":=⟨_,he,rfl⟩;unfold pyNext
  refine ak (wpAny_attempt (wpAny_callSpecial?_slot (name:=Str.ofString "__next__") hT F.slot_enumerate_next
   (wpAny_call_entry F.slot_enumerate_next hT F.entry_enumerate_next ?_ (F.args_enumerate_next_1 _))))
  show wpAny _ _ (field (.ref q) 2 >>= _) _ _ _;refine ak (wpAny_field he rfl (x:=.ref it) rfl ?_);refine ak (wpAny_nextOf_ascii_end (I.ok.hd hc) hit (Array.getElem?_eq_none hg) λh' x he' hx'=>?_);obtain⟨o,ho,hcc⟩:=hx';refine ak (wpAny_isInstance (T:="StopIteration") (b:=true) ⟨o,ho,hcc⟩ isSubtype_stop ?_);refine aD ⟨rfl,?_⟩;exact I.turnedL (t':=s.toks) (fp:=[q,it]) (λb o hb e=>he' b o (λz=>hb (by simp[z])) e) hf
 self:=λ_ _ _ _ _ st h=>let ⟨_,he⟩:=st.1;wpAny_pyIter_enum he h
theorem gives_enumS{K:PySem.W.Frag}{H:Hp}(x:Str):Gives K H (Ites x) (enumD (signsD x)):=λH' p=>by
 have hl:(enumD (signsD x)).length=x.cps.size:=by simp[enumD,signsD]
 refine⟨λi y e=>?_,by show x.cps.size<=_;rw[hl];exact ao _⟩;have hi:i<x.cps.size:=by rw[<- hl];exact(ah.mp e).1
 have ex:y=.tup [.int (i:Int),.str ⟨#[x.cps[i]]⟩]:=by
  have:(enumD (signsD x))[i]?=some (.tup [.int (i:Int),.str ⟨#[x.cps[i]]⟩]):=by simp[enumD,signsD,hi]
  rw[this]at e;exact(a8 e).symm
 refine⟨hi,λw H2 ⟨q,c,e1,e2,e3,e4⟩=>?_⟩;rw[Array.getElem?_eq_getElem hi]at e1;cases e1;subst e2 e4 ex;exact⟨.inr ⟨_,_,e3,rfl⟩,.tup (.inl (.inl (upd_same ..))) (.cons (.int _) (.cons (.str _) .nil))⟩
def wEnumS(t:W L):W (List D):=λZ af=>t Z λr Z1=>toD r λd=>match d with
 |.str x=>x.cps.all (· < 128)=true/\af (enumD (signsD x)) Z1
 |_=>False
theorem isEn{f:Str->Prop}:∀{ls:List L},(match ls with | [.d (.str x)]=>f x|_=>False)->∃z,ls=[.d (.str z)]/\f z
 |[.d (.str z)],h=>⟨z,rfl,h⟩
theorem pil_enumS{k:Nat}{t:W L} (hg:Gl X "enumerate") (hm:X.mg "enumerate"=none) (ha:PL X a t) (hs:starEach [a] X.env=[(false,eval a X.env)]:=by rfl):PIL X (.Tuple es k apos) (.Call (.Name "enumerate" p) [a] [] pos) (wEnumS t):=by
 intro ab s σ H Pr Z af I E h
 refine Call_ (ld_blt I hg hm boot_enumerate (PyProof.Rows.callWith_type1 (thn (pal_val (pl_frz ha) pal_nil hs pos ab s σ H Pr Z (λls Z1=>match ls with
  |[.d (.str x)]=>x.cps.all (· < 128)=true/\af (enumD (signsD x)) Z1
  |_=>False) I E ?_) λus s1 ⟨vs,H1,ls,Z1,I1,r1,hl,hb,E1,_,q1⟩=>?_) hs rfl))
 .
  show t Z _
  have e:(λr Z1=>toD r λd=>match d with | .str x=>x.cps.all (· < 128)=true/\af (enumD (signsD x)) Z1|_=>False)=(λr Z1=>toD r λx=>aNil Z1 λxs Z2=>match L.d x::xs with | [.d (.str x)]=>x.cps.all (· < 128)=true/\af (enumD (signsD x)) Z2|_=>False):=by
   funext r Z1
   cases r with
   |un=>rfl
   |d d=>cases d<;>rfl
   |own=>rfl
   | bx b ls =>
    show isSome' (eraseL (.bx b ls)) _=isSome' (eraseL (.bx b ls)) _
    cases eraseL (.bx b ls)with
    |none=>rfl
    |some d=>cases d<;>rfl
   |dic b ls=>rfl
  rw[<- e];exact h
 .
  obtain⟨x1,rfl,hax,q1⟩:=isEn q1
  cases vs with
  |nil=>exact absurd hl zY
  | cons v vs =>
   have:vs=[]:=by
    have:vs.length=0:=by simpa using hl
    exact List.length_eq_zero_iff.mp this
   subst this;obtain⟨_,e1,p1⟩:=REnv.head_d (σ:=σ) (Z:=Z1) E1;cases e1;cases p1;obtain⟨u,rfl,ru⟩:=r1.one;obtain⟨tk,rfl⟩:=ru;have hst:strIterType x1="str_ascii_iterator":=by unfold strIterType; rw[hax]; rfl
   refine call_enumerate_str λh' hE hI hsz hk=>?_;rw[hst]at hI;refine wpAny_pyIter_enum (s:={s1 with heap:=h' }) hE ?_;have E2:REnv X.K Pr H1 σ Z1:=REnv.tail (σ:=σ) (Z:=Z1) E1;refine⟨s1.heap.objs.size+1,[s1.heap.objs.size+1,s1.heap.objs.size],_,_,H1,_,Z1,rfl,I1.kept (t':=s1.toks) hk,turn_enumS _ _ _ _ (Nat.succ_ne_self _),⟨⟨_,hE⟩,hI⟩,λb hb=>?_,E2,gives_enumS _,q1⟩
   have hb':s1.heap.objs.size<=b:=by
    rcases az.mp hb with rfl|hb
    . exact Nat.le_succ _
    . rw[aP.mp hb];exact ao _
   exact I1.fpOk hb' (I1.hok.fresh hb')
def opStrU:OpN:=λds k=>match ds with
 |[.int n]=>n.natAbs.log2<1920/\k (.d (.str (Str.ofString (toString n))))
 |[.str x]=>k (.d (.str x))
 |_=>False
theorem call_strU:CallR X (.type "str") (λxs H Q=>(∃ n,xs=[.int n]/\n.natAbs.log2 < 1920/\Q (.str (Str.ofString (toString n))) H)∨∃ z,xs=[.str z]/\Q (.str z) H):=by
 intro ab s σ H xs us Q I r h;rcases h with⟨n,rfl,hl,q⟩|⟨z,rfl,q⟩
 . obtain⟨u,rfl,t,rfl⟩:=vals1 r;exact PySem.P.str_of_int hl ⟨.str _,H,I.tok _,⟨_,rfl⟩,q⟩
 . obtain⟨u,rfl,t,rfl⟩:=vals1 r;exact PySem.P.str_of_str ⟨.str _,H,I,⟨_,rfl⟩,q⟩
theorem cd_strU:CallD X (.type "str") opStrU:=CallD.of call_strU λσ H Pr Z vs ds af E ps h=>by
 unfold opStrU at h;split at h
 . rename_i n;obtain⟨hl,h⟩:=h;obtain⟨v,rfl,r⟩:=reps1 ps;cases r;exact .inl ⟨n,rfl,hl,_,E.cons_d (.str _),h⟩
 . rename_i z;obtain⟨v,rfl,r⟩:=reps1 ps;cases r;exact .inr ⟨z,rfl,_,E.cons_d (.str _),h⟩
 . exact h.elim
end
end L2
namespace L2
open PySem
theorem forL_inv{g:Tg}{b:W Fl}{af:Fl->Ev->Prop}:∀(xs:List D)(I:Nat->Ev->Prop)(Z:Ev),I 0 Z ->
  (∀j x Z,xs[j]?=some x->I j Z->∀Q:Fl->Ev->Prop,(∀Z',I (j+1) Z'->Q .nx Z')->(∀Z',I (j+1) Z'->Q .ct Z')->(∀Z',af .nx Z'->Q .bk Z')->(∀r Z',af (.rt r) Z'->Q (.rt r) Z')->g x Z λZ1=>b Z1 Q) ->
  (∀Z,I xs.length Z->af .nx Z)->wForL g b xs Z af
 |[],I,Z,h0,_,fin=>fin Z h0
 | x::xs,I,Z,h0,step,fin=>by
  unfold wForL;refine step 0 x Z rfl h0 _ (λZ' h=>?_) (λZ' h=>?_) (λZ' h=>h) (λr Z' h=>h)
  . exact forL_inv xs (λj=>I (j+1)) Z' h (λj y Z e hi=>step (j+1) y Z e hi) fin
  . exact forL_inv xs (λj=>I (j+1)) Z' h (λj y Z e hi=>step (j+1) y Z e hi) fin
theorem comp_pure{α:Type}{enc:α->D}{h:α->Option D}{caps:Ev}{ti:W Bool}{te:W L}{k:List D->Ev->Prop}:∀(as:List α)(acc:List D)(l:L),
  (∀a∈as,∀Q:Ev->Option D->Prop,Q (.d (enc a)::caps) (h a)->ti (.d (enc a)::caps) λb Z2=>if b=true then te Z2 λr Z3=>toD r λy=>Q Z3 (some y)else Q Z2 none) ->
  (∀l',k (acc++as.filterMap h) (l'::caps))->compL (tgName 0) ti te (as.map enc) (l::caps) acc k
 |[],acc,l,_,fin=>by have:=fin l;simpa[compL]using this
 | a::as,acc,l,step,fin=>by
  show compL (tgName 0) ti te (enc a::as.map enc) (l::caps) acc k;unfold compL;show ti (.d (enc a)::caps) _
  refine step a ai (λZ o=>match o with|some y=>compL (tgName 0) ti te (as.map enc) Z (acc++[y]) k|none=>compL (tgName 0) ti te (as.map enc) Z acc k) ?_
  cases e:h a with
  |none=>exact comp_pure as acc _ (λb hb=>step b (ag _ hb)) (by simpa[bX,e]using fin)
  |some y=>exact comp_pure as (acc++[y]) _ (λb hb=>step b (ag _ hb)) (by simpa[bX,e]using fin)
theorem comp_map{α:Type}{enc:α->D}{h:α->D}{caps:Ev}{te:W L}{k:List D->Ev->Prop}(as:List α)(acc:List D)(l:L)
  (step:∀a∈as,∀Q:Ev->D->Prop,Q (.d (enc a)::caps) (h a)->te (.d (enc a)::caps) λr Z3=>toD r λy=>Q Z3 y)
  (fin:∀l',k (acc++as.map h) (l'::caps)):compL (tgName 0) wTrue te (as.map enc) (l::caps) acc k:=by
 refine comp_pure (h:=λa=>some (h a)) as acc l (λa ha Q q=>?_) (by simpa using fin);simp only[wTrue,if_true];exact step a ha (λZ y=>Q Z (some y)) q
theorem atI_0{α:Type}{x:α}{xs:List α}:atI (x::xs) 0=some x:=atI_nat (j:=0) rfl
theorem atI_1{α:Type}{x y:α}{xs:List α}:atI (x::y::xs) 1=some y:=atI_nat (j:=1) rfl
theorem atI_2{α:Type}{x y z:α}{xs:List α}:atI (x::y::z::xs) 2=some z:=atI_nat (j:=2) rfl
theorem atI_3{α:Type}{x y z w:α}{xs:List α}:atI (x::y::z::w::xs) 3=some w:=atI_nat (j:=3) rfl
theorem atI_4{α:Type}{x y z w v:α}{xs:List α}:atI (x::y::z::w::v::xs) 4=some v:=atI_nat (j:=4) rfl
theorem atI_of{α:Type}{xs:List α}{i:Int}{x:α}(h0:0<=i)(h:xs[i.toNat]?=some x):atI xs i=some x:=by have:=atI_nat h;rwa [Int.toNat_of_nonneg h0]at this
theorem ix30:ixN 3 0=some 0:=by decide
theorem ix31:ixN 3 1=some 1:=by decide
theorem ix32:ixN 3 2=some 2:=by decide
theorem forR_inv{g:Tg}{b:W Fl}{af:Fl->Ev->Prop}(lo:Int)(n:Nat)(I:Nat->Ev->Prop)(Z:Ev)(h0:I 0 Z)
  (step:∀j Z,j<n->I j Z->∀Q:Fl->Ev->Prop,(∀Z',I (j+1) Z'->Q .nx Z')->(∀Z',I (j+1) Z'->Q .ct Z')->(∀Z',af .nx Z'->Q .bk Z')->(∀r Z',af (.rt r) Z'->Q (.rt r) Z')->g (.int (lo+(j:Int))) Z λZ1=>b Z1 Q)
  (fin:∀Z,I n Z->af .nx Z):wForL g b (rngD lo n) Z af:=by
 have hl:(rngD lo n).length=n:=by simp[rngD]
 refine forL_inv _ I Z h0 (λj x Z hj hi Q h1 h2 h3 h4=>?_) λZ h=>fin Z (by rwa [hl]at h);have hj':j<n:=by rw[<- hl];exact(ah.mp hj).1
 have e:x=.int (lo+(j:Int)):=by unfold rngD at hj;rw[bo,List.getElem?_range hj']at hj;exact(a8 hj).symm
 subst e;exact step j Z hj' hi Q h1 h2 h3 h4
theorem forR0_inv{g:Tg}{b:W Fl}{af:Fl->Ev->Prop}(n:Nat)(I:Nat->Ev->Prop)(Z:Ev)(h0:I 0 Z)
  (step:∀j Z,j<n->I j Z->∀Q:Fl->Ev->Prop,(∀Z',I (j+1) Z'->Q .nx Z')->(∀Z',I (j+1) Z'->Q .ct Z')->(∀Z',af .nx Z'->Q .bk Z')->(∀r Z',af (.rt r) Z'->Q (.rt r) Z')->g (.int (j:Int)) Z λZ1=>b Z1 Q)
  (fin:∀Z,I n Z->af .nx Z):wForL g b (rngD 0 n) Z af :=
 forR_inv 0 n I Z h0 (λj Z hj hi Q h1 h2 h3 h4=>by rw[Int.zero_add];exact step j Z hj hi Q h1 h2 h3 h4) fin
theorem bits_small{i:Int}(h:i.natAbs<2^200):bitsOk i:=aq h (bt zd zd)
theorem fmod_rng(x:Int){m:Int}(h:0<m):0<=x.fmod m/\x.fmod m<m:=by rw[Int.fmod_eq_emod_of_nonneg _ zZ];exact⟨Int.emod_nonneg _ zZ,Int.emod_lt_of_pos _ h⟩
theorem bits_le{i:Int}{n:Nat}(h0:0<=i)(h:i<2^n)(hn:n<=1000000):bitsOk i:=by
 have:i.natAbs<2^n:=by
  have e:((2^n:Nat):Int)=(2:Int)^n:=by simp
  omega
 exact aq this (bt zd hn)
theorem ten60:(10:Int)^60<2^200:=by decide
theorem small9000{i:Int}(h0:0<=i)(h:i<=10^60):i.natAbs<2^9000:=by
 have:i.natAbs<2^200:=by
  have:=ten60;have e:((2^200:Nat):Int)=(2:Int)^200:=by decide
  omega
 exact aq this (bt zd zd)
structure Ask where
 nm:Str
 one:Nat
 other:Nat
 size:Rat
structure Ring where
 rooms:List Rat
 asks:List Ask
noncomputable def Ring.n(R:Ring):Nat:=R.rooms.length
noncomputable def askD(a:Ask):D:=.tup [.str a.nm,.int a.one,.int a.other,frD a.size]
noncomputable def ringD(R:Ring):D:=.tup [.lst (R.rooms.map frD),.lst (R.asks.map askD)]
structure AskOk (n:Nat) (a:Ask):Prop where
 one:a.one<n
 other:a.other<n
 ne:a.one≠a.other
 size:0<=a.size
 lt:a.size<((2^300:Nat):Rat)
 nm:PyData.strOk a.nm=true
structure Ring.Ok (R:Ring):Prop where
 lo:2<=R.n
 hi:R.n<=12
 few:R.asks.length<=20
 room:∀q∈R.rooms,0<q/\RB 60 q
 ask:∀a∈R.asks,AskOk R.n a
 cd:∃D:Nat,0<D/\D<2^1240/\∀a∈R.asks,a.size.den∣D
theorem okDs_map{α:Type}{n:Nat}{f:α->D}:∀xs:List α,(∀x∈xs,okD n (f x)=true)->okDs n (xs.map f)=true
 |[],_=>rfl
 |x::xs,h=>by simp[okDs,h x ai,okDs_map xs λy hy=>h y (ag _ hy)]
def StOk(xs:List D):Prop:=∃(c sd:Int)(t:Bool),xs=[.int c,.int sd,.bl t]/\0<=sd/\sd<2147483647
noncomputable def denP(qs:List Rat):Nat:=(qs.map (·.den)).foldr (·*·) 1
noncomputable def sumQ(qs:List Rat):Rat:=qs.foldl (·+·) 0
theorem foldl_add(qs:List Rat):∀acc:Rat,qs.foldl (·+·) acc=acc+sumQ qs:=by
 unfold sumQ
 induction qs with
 |nil=>intro acc;simp[Rat.add_zero]
 |cons q qs ih=>intro acc;rw[List.foldl_cons,List.foldl_cons,ih,ih (0+q),Rat.zero_add,Rat.add_assoc]
theorem sumQ_cons(q:Rat)(qs:List Rat):sumQ (q::qs)=q+sumQ qs:=by show(q::qs).foldl (·+·) 0=_;rw[List.foldl_cons,foldl_add,Rat.zero_add]
theorem opIx_lst{xs:List D}{i:Int}{k:L->Prop}:opIx (.lst xs) (.int i) k=∃v,atI xs i=some v/\k (.d v):=rfl
theorem opIx_tup{xs:List D}{i:Int}{k:L->Prop}:opIx (.tup xs) (.int i) k=∃v,atI xs i=some v/\k (.d v):=rfl
theorem opIx_str{z:Str}{i:Int}{k:L->Prop}:opIx (.str z) (.int i) k=(z.length<=sizeLine/\∃c,atI z.cps.toList i=some c/\k (.d (.str ⟨#[c]⟩))):=rfl
theorem ix_ring0{R:Ring}{k:L->Prop}:opIx (ringD R) (.int 0) k=k (.d (.lst (R.rooms.map frD))):=by show(∃v,atI _ _=some v/\_)=_;simp only[atI_0,aG,ba]
theorem ix_ring1{R:Ring}{k:L->Prop}:opIx (ringD R) (.int 1) k=k (.d (.lst (R.asks.map askD))):=by show(∃v,atI _ _=some v/\_)=_;simp only[atI_1,aG,ba]
theorem ix_ask0{a:Ask}{k:L->Prop}:opIx (askD a) (.int 0) k=k (.d (.str a.nm)):=by show(∃v,atI _ _=some v/\_)=_;simp only[atI_0,aG,ba]
theorem ix_ask1{a:Ask}{k:L->Prop}:opIx (askD a) (.int 1) k=k (.d (.int a.one)):=by show(∃v,atI _ _=some v/\_)=_;simp only[atI_1,aG,ba]
theorem ix_ask2{a:Ask}{k:L->Prop}:opIx (askD a) (.int 2) k=k (.d (.int a.other)):=by show(∃v,atI _ _=some v/\_)=_;simp only[atI_2,aG,ba]
theorem ix_ask3{a:Ask}{k:L->Prop}:opIx (askD a) (.int 3) k=k (.d (frD a.size)):=by show(∃v,atI _ _=some v/\_)=_;simp only[atI_3,aG,ba]
theorem ix_fr0{q:Rat}{k:L->Prop}:opIx (frD q) (.int 0) k=k (.d (.int q.num)):=by show(∃v,atI _ _=some v/\_)=_;simp only[atI_0,aG,ba]
theorem ix_fr1{q:Rat}{k:L->Prop}:opIx (frD q) (.int 1) k=k (.d (.int (q.den:Int))):=by show(∃v,atI _ _=some v/\_)=_;simp only[atI_1,aG,ba]
theorem noL_fr(q:Rat):noL (frD q)=true:=by simp[frD,noL,noLs]
theorem noLs_map{α:Type}{f:α->D}:∀(xs:List α),(∀x∈xs,noL (f x)=true)->noLs (xs.map f)=true
 |[],_=>rfl
 |x::xs,h=>by simp[noLs,h x ai,noLs_map xs λy hy=>h y (ag _ hy)]
theorem noLs_frs(qs:List Rat):noLs (qs.map frD)=true:=noLs_map _ λq _=>noL_fr q
theorem noLs_ints{α:Type}(f:α->Int)(xs:List α):noLs (xs.map λx=>D.int (f x))=true:=noLs_map _ λ_ _=>rfl
theorem rooms_len(R:Ring):R.rooms.length=R.n:=rfl
noncomputable def wayS(w:Bool):Str:=if w then "on" else "back"
theorem shape_on:shapeD (.str "on"):=shape_ok (n:=0) zb zd
theorem shape_back:shapeD (.str "back"):=shape_ok (n:=0) zb zd
theorem shape_way(w:Bool):shapeD (.str (wayS w)):=by
 cases w
 . exact shape_back
 . exact shape_on
theorem way_on(w:Bool):(wayS w="on")=(w=true):=by cases w <;> simp[wayS] <;> decide
theorem way_back(w:Bool):(wayS w="back")=(w=false):=by cases w <;> simp[wayS] <;> decide
theorem tgTup_tup{is:List Nat}{xs:List D}{Z:Ev}{k:Ev->Prop}:tgTup is (.tup xs) Z k=tgNames is xs Z k:=rfl
theorem tgTup_ask{is:List Nat}{a:Ask}{Z:Ev}{k:Ev->Prop}:tgTup is (askD a) Z k=tgNames is [.str a.nm,.int a.one,.int a.other,frD a.size] Z k:=rfl
theorem tgTup_fr{is:List Nat}{q:Rat}{Z:Ev}{k:Ev->Prop}:tgTup is (frD q) Z k=tgNames is [.int q.num,.int (q.den:Int)] Z k:=rfl
theorem itemsOf_lst{xs:List D}{k:List D->Prop}:itemsOf (.lst xs) k=k xs:=rfl
theorem itemsOf_tup{xs:List D}{k:List D->Prop}:itemsOf (.tup xs) k=k xs:=rfl
theorem itemsOf_fr{q:Rat}{k:List D->Prop}:itemsOf (frD q) k=k [.int q.num,.int (q.den:Int)]:=rfl
theorem opLen_lst{xs:List D}{k:L->Prop}:opLen [.lst xs] k=k (.d (.int xs.length)):=rfl
theorem opLen_tup{xs:List D}{k:L->Prop}:opLen [.tup xs] k=k (.d (.int xs.length)):=rfl
theorem opLen_str{x:Str}{k:L->Prop}:opLen [.str x] k=(x.length<=sizeLine/\k (.d (.int x.length))):=rfl
theorem opLen_fr{q:Rat}{k:L->Prop}:opLen [frD q] k=k (.d (.int 2)):=rfl
theorem opLen_ring{R:Ring}{k:L->Prop}:opLen [ringD R] k=k (.d (.int 2)):=rfl
theorem opLen_ask{a:Ask}{k:L->Prop}:opLen [askD a] k=k (.d (.int 4)):=rfl
theorem isTy_tup_fr(q:Rat):isTy "tuple" (frD q)=true:=rfl
theorem isTy_lst_fr(q:Rat):isTy "list" (frD q)=false:=rfl
theorem isTy_int_fr(q:Rat):isTy "int" (frD q)=false:=rfl
theorem isTy_bool_fr(q:Rat):isTy "bool" (frD q)=false:=rfl
theorem isTy_str_fr(q:Rat):isTy "str" (frD q)=false:=rfl
theorem isTy_tup_ring(R:Ring):isTy "tuple" (ringD R)=true:=rfl
noncomputable def frL(n:Nat)(f:Nat->Rat):List D:=(List.range n).map λ(t:Nat)=>frD (f t)
theorem frL_len(n:Nat)(f:Nat->Rat):(frL n f).length=n:=by simp[frL]
theorem frL_map(n:Nat)(f:Nat->Rat):frL n f=((List.range n).map f).map frD:=by unfold frL;rw[List.map_map];rfl
theorem noLs_frL(n:Nat)(f:Nat->Rat):noLs (frL n f)=true:=by rw[frL_map];exact noLs_frs _
noncomputable def cutP(c:Nat×Nat):D:=.tup [.int (c.1:Int),.int (c.2:Int)]
theorem ix_cut0{c:Nat×Nat}{k:L->Prop}:opIx (cutP c) (.int 0) k=k (.d (.int c.1)):=by show(∃v,atI _ _=some v/\_)=_;simp only[atI_0,aG,ba]
theorem ix_cut1{c:Nat×Nat}{k:L->Prop}:opIx (cutP c) (.int 1) k=k (.d (.int c.2)):=by show(∃v,atI _ _=some v/\_)=_;simp only[atI_1,aG,ba]
theorem okD_cut(n:Nat)(c:Nat×Nat):okD (n+1) (cutP c)=true:=by cases n<;>simp[cutP,okD,okDs]
theorem noL_cut(c:Nat×Nat):noL (cutP c)=true:=by simp[cutP,noL,noLs]
theorem shape_cut(c:Nat×Nat):shapeD (cutP c):=shape_ok (okD_cut 0 c) zd
theorem eqD_cut(c d:Nat×Nat):eqD (cutP c) (cutP d)=decide (c=d):=by
 unfold cutP;rw[eqD_tup,eqDs_cons,eqDs_cons,eqDs_nil,eqD_int,eqD_int,Bool.and_true,<- Bool.decide_and,decide_eq_decide];constructor
 . rintro⟨h1,h2⟩;exact Prod.ext zZ zZ
 . rintro rfl;exact⟨rfl,rfl⟩
noncomputable def gP(g:Rat×(Nat×Nat)):D:=.tup [frD g.1,cutP g.2]
theorem ix_g0{g:Rat×(Nat×Nat)}{k:L->Prop}:opIx (gP g) (.int 0) k=k (.d (frD g.1)):=by show(∃v,atI _ _=some v/\_)=_;simp only[atI_0,aG,ba]
theorem ix_g1{g:Rat×(Nat×Nat)}{k:L->Prop}:opIx (gP g) (.int 1) k=k (.d (cutP g.2)):=by show(∃v,atI _ _=some v/\_)=_;simp only[atI_1,aG,ba]
theorem isTy_non(T:String):isTy T .non=(T == "NoneType"):=rfl
theorem isTy_bl(T:String)(b:Bool):isTy T (.bl b)=(T == "bool" ||T == "int"):=rfl
theorem isTy_int(T:String)(i:Int):isTy T (.int i)=(T == "int"):=rfl
theorem isTy_str(T:String)(x:Str):isTy T (.str x)=(T == "str"):=rfl
theorem isTy_tup(T:String)(xs:List D):isTy T (.tup xs)=(T == "tuple"):=rfl
theorem isTy_lst(T:String)(xs:List D):isTy T (.lst xs)=(T == "list"):=rfl
theorem isTy_tup_g(g:Rat×(Nat×Nat)):isTy "tuple" (gP g)=true:=rfl
theorem isTy_tup_cut(c:Nat×Nat):isTy "tuple" (cutP c)=true:=rfl
theorem isTy_tup_ask(a:Ask):isTy "tuple" (askD a)=true:=rfl
theorem opLen_cut{c:Nat×Nat}{k:L->Prop}:opLen [cutP c] k=k (.d (.int 2)):=rfl
theorem opLen_g{c:Rat×(Nat×Nat)}{k:L->Prop}:opLen [gP c] k=k (.d (.int 2)):=rfl
theorem noLs_cuts(cs:List (Nat×Nat)):noLs (cs.map cutP)=true:=noLs_map _ λc _=>noL_cut c
end L2
namespace L2
open PySem PySem.Builtin.Str
theorem slice_to{x:Str}{j:Int}(h0:0<=j)(h2:j<=x.length):(Txt.slice x none (some j)).cps.toList=x.cps.toList.take j.toNat:=by have:=eq_of_beq (PyProof.Rows.slice_closes_toL h0 h2);rw[this];simp
theorem slice_from{x:Str}{i:Int}(h0:0<=i)(h2:i<=x.length):(Txt.slice x (some i) none).cps.toList=x.cps.toList.drop i.toNat:=by
 rw[PyProof.Rows.slice_from_eq h0 h2 rfl];have e:x.cps.toList.length=x.length:=by simp[Str.length]
 rw[bA];rw[aU,e];omega
def LetterC(c:Nat):Prop:=97<=c/\c<=122
structure NmOk (z:Str):Prop where
 lo:1<=z.cps.toList.length
 hi:z.cps.toList.length<=8
 let_:∀c∈z.cps.toList,LetterC c
theorem NmOk.ok{z:Str}(h:NmOk z):PyData.strOk z=true:=by unfold PyData.strOk;rw[<- Array.all_toList,bb];intro c hc;have:=h.let_ c hc;unfold LetterC at this;simp;omega
end L2
namespace L2
open PySem
noncomputable def onL(n i j:Nat):List Nat:=(List.range ((j+n-i) % n)).map λs=>(i+s) % n
noncomputable def backL(n i j:Nat):List Nat:=(List.range ((i+n-j) % n)).map λs=>(i+n-1-s) % n
noncomputable def wayL(n:Nat)(a:Ask)(w:Bool):List Nat:=if w then onL n a.one a.other else backL n a.one a.other
noncomputable def far(n i j:Nat):Nat:=(j+n-i) % n
noncomputable def isOn(n:Nat)(a:Ask)(t:Nat):Bool:=decide (far n a.one t<far n a.one a.other)
theorem RB.sum{b:Nat}:∀(qs:List Rat),(∀q∈qs,RB b q)->RB (1+(b+1)*qs.length) (sumQ qs)
 |[],_=>RB.mono (m:=1) ⟨zd,zd⟩ zZ
 | q::qs,h=>by have ih:=RB.sum qs λz hz=>h z (ag _ hz);rw[sumQ_cons];refine((h q ai).add ih).mono ?_;rw[aK,Nat.mul_succ];omega
noncomputable def sent(n:Nat)(a:Ask)(p:Rat)(t:Nat):Rat:=if isOn n a t then p else a.size-p
noncomputable def loadQ(n:Nat)(as:List Ask)(ps:List Rat)(t:Nat):Rat:=sumQ ((as.zip ps).map λx=>sent n x.1 x.2 t)
theorem atI_neg1{α:Type}{xs:List α}{x:α}(h:xs[xs.length-1]?=some x):atI xs (-1)=some x:=by
 have hl:xs.length-1<xs.length:=(ah.mp h).1;unfold atI ixN;rw[if_neg (by decide),if_pos (by omega)];show xs[_]?=_;have:(-1+(xs.length:Int)).toNat=xs.length-1:=by omega
 rw[this];exact h
noncomputable def within(c:Nat×Nat)(p:Nat):Bool:=decide (c.1<p/\p<=c.2)
noncomputable def apart(c:Nat×Nat)(i j:Nat):Bool:=within c i != within c j
noncomputable def Ring.room(R:Ring)(t:Nat):Rat:=R.rooms.getD t 0
def IsCut(n:Nat)(c:Nat×Nat):Prop:=c.1<=c.2/\c.2<n
def SumOk(qs:List Rat):Prop:=denP qs<2^9000∨∃D:Nat,0<D/\D<2^4400/\∀q∈qs,q.den∣D
noncomputable def Ring.sz(R:Ring)(k:Nat):Rat:=(R.asks.map (·.size)).getD k 0
end L2
namespace My
open PySem L2
noncomputable def askAt(R:Ring)(j:Nat):Ask:=(R.asks[j]?).getD ⟨"",0,0,0⟩
noncomputable def onA(R:Ring)(j t:Nat):Bool:=isOn R.n (askAt R j) t
noncomputable def cbN(qs:List Rat):Nat:=qs.foldl (λb q=>Nat.lcm b q.den) 1
noncomputable def unitI(u:Nat)(q:Rat):Int:=q.num*((u / q.den:Nat):Int)
noncomputable def sizesL(R:Ring):List Rat:=R.asks.map (·.size)
noncomputable def mostL(R:Ring)(q:Rat):List Rat:=R.rooms.map λr=>q*r
noncomputable def cbR(R:Ring)(q:Rat):Nat:=cbN (sizesL R++mostL R q)
noncomputable def unitsN(R:Ring)(q:Rat):Nat:=2*cbR R q
noncomputable def wI(R:Ring)(q:Rat)(j:Nat):Int:=unitI (unitsN R q) (askAt R j).size
noncomputable def f0I(R:Ring)(q:Rat)(t:Nat):Int:=unitI (unitsN R q) (q*R.room t)
end My
set_option exponentiation.threshold 2000
namespace L2
open PySem
theorem okD_mono:∀{m n:Nat}(d:D),m<=n->okD m d=true->okD n d=true:=by
 intro m n d hmn h
 have:∀(m:Nat),(∀(n:Nat)(d:D),m<=n->okD m d=true->okD n d=true)/\∀(n:Nat)(ds:List D),m<=n->okDs m ds=true->okDs n ds=true:=by
  intro m
  induction m with
  | zero =>
   have h0:∀(n:Nat)(d:D),0<=n->okD 0 d=true->okD n d=true:=λn d _ h=>by cases d<;>cases n<;>simp_all [okD]
   refine⟨h0,λn ds hn h=>?_⟩
   induction ds with
   |nil=>simp[okDs]
   |cons x xs ih=>simp only[okDs,aI]at h ⊢;exact⟨h0 n x hn h.1,ih h.2⟩
  | succ m ih =>
   have h0:∀(n:Nat)(d:D),m+1<=n->okD (m+1) d=true->okD n d=true:=λn d hn h=>by
    obtain⟨k,rfl⟩:∃k,n=k+1:=⟨n-1,zZ⟩;cases d<;>simp_all [okD]
    all_goals exact ih.2 k _ zZ h
   refine⟨h0,λn ds hn h=>?_⟩
   induction ds with
   |nil=>simp[okDs]
   |cons x xs ihx=>simp only[okDs,aI]at h ⊢;exact⟨h0 n x hn h.1,ihx h.2⟩
 exact(this m).1 n d hmn h
end L2
set_option exponentiation.threshold 5000
namespace My
open PySem L2
structure LB (R:Ring) (ps:List Rat):Prop where
 p:∀p∈ps,RB 4100 p
 ld:∀k t,RB 4100 (loadQ R.n (R.asks.take k) (ps.take k) t)
 st:∀(k:Nat)(h1:k<R.asks.length)(h2:k<ps.length)(t:Nat),RB 4100 (sent R.n R.asks[k] ps[k] t)
 sm:∀t,SumOk ((R.asks.zip ps).map λx=>sent R.n x.1 x.2 t)
theorem LB.all{R:Ring}{ps:List Rat}(h:LB R ps)(hl:ps.length=R.asks.length)(t:Nat):RB 4100 (loadQ R.n R.asks ps t):=by have:=h.ld R.asks.length t;rwa [bA (ao _),bA zZ]at this
mutual
noncomputable def widD:D->Nat
 |.tup xs=>max xs.length (widDs xs)
 |.lst xs=>max xs.length (widDs xs)
 |_=>0
noncomputable def widDs:List D->Nat
 |[]=>0
 |x::xs=>max (widD x) (widDs xs)
end
theorem widDs_le{n:Nat}:∀{xs:List D},(∀x∈xs,widD x<=n)->widDs xs<=n
 |[],_=>b7 _
 | y::ys,h=>by simp only[widDs];have:=h y ai;have:=widDs_le (xs:=ys) λx hx=>h x (ag _ hx);omega
theorem widD_fr(q:Rat):widD (frD q)=2:=by simp[frD,widD,widDs]
theorem widD_ask(a:Ask):widD (askD a)=4:=by have:=widD_fr a.size;simp[askD,widD,widDs,this]
theorem widD_asks{as:List Ask}{n:Nat}(h:as.length<=n)(h2:4<=n):widD (.lst (as.map askD))<=n:=by
 simp only[widD,aF];have:=widDs_le (n:=4) (xs:=as.map askD) λx hx=>by obtain⟨q,_,rfl⟩:=List.mem_map.mp hx;rw[widD_ask];exact ao _
 omega
structure SmD (n:Nat) (d:D):Prop where
 dep:depD d<n
 wid:widD d<=99
theorem SmD.mono{n m:Nat}{d:D}(h:SmD n d)(hm:n<=m):SmD m d:=⟨aq h.dep hm,h.wid⟩
theorem depD_fr(q:Rat):depD (frD q)=1:=by simp[frD,depD,depDs]
theorem depD_ask(a:Ask):depD (askD a)=2:=by have:=depD_fr a.size;simp[askD,depD,depDs,this]
theorem depD_lst{xs:List D}{n:Nat}(h:∀x∈xs,depD x<=n):depD (.lst xs)<=n+1:=by simp only[depD];have:=depDs_le h;omega
theorem depD_asks(as:List Ask):depD (.lst (as.map askD))<=3:=depD_lst λx hx=>by obtain⟨q,_,rfl⟩:=List.mem_map.mp hx;rw[depD_ask];exact ao _
theorem SmD.asks{as:List Ask}(h:as.length<=99):SmD 4 (.lst (as.map askD)):=⟨by have:=depD_asks as;omega,widD_asks h zd⟩
mutual
theorem okD_mono:∀(n:Nat)(d:D),okD n d=true->okD (n+1) d=true
 |_,.non,_=>by simp[okD]
 |_,.bl _,_=>by simp[okD]
 |_,.int _,_=>by simp[okD]
 |_,.str x,h=>by simpa[okD]using h
 |0,.tup _,h=>by simp[okD]at h
 |0,.lst _,h=>by simp[okD]at h
 | n+1,.tup xs,h=>by
  simp only[okD]at h ⊢
  exact okDs_mono n xs h
 | n+1,.lst xs,h=>by
  simp only[okD]at h ⊢
  exact okDs_mono n xs h
 |_,.dct _,h=>by simp[okD]at h
 |_,.exc _ _ _,h=>by simp[okD]at h
 |_,.fn _ _,h=>by simp[okD]at h
 |_,.dk _ _,h=>by simp[okD]at h
 |_,.gf _,h=>by simp[okD]at h
theorem okDs_mono:∀(n:Nat)(ds:List D),okDs n ds=true->okDs (n+1) ds=true
 |_,[],_=>rfl
 | n,d::ds,h=>by
  simp only[okDs,aI]at h ⊢
  exact⟨okD_mono n d h.1,okDs_mono n ds h.2⟩
end
theorem okD_up{n m:Nat}{d:D}(h:okD n d=true)(hm:n<=m):okD m d=true:=by
 obtain⟨k,rfl⟩:=Nat.exists_eq_add_of_le hm
 induction k with
 |zero=>exact h
 |succ k ih=>exact okD_mono _ _ (ih zZ)
end My
set_option exponentiation.threshold 5000
namespace My
open PySem L2
structure Wish where
 top:Rat
 strict:Bool
 elder:List (Option Bool)
 most:Nat
noncomputable def isTurn(x:Option Bool×Option Bool):Bool:=match x.1 with
 |none=>false
 |some a=>x.2 == some (!a)
noncomputable def turnL(el ws:List (Option Bool)):List Nat:=((el.zip ws).zipIdx.filter λx=>isTurn x.1).map (·.2)
noncomputable def muchZ(st:Bool)(load bound:Int):Bool:=decide (bound<load) ||(st && decide (load=bound))
end My
set_option exponentiation.threshold 5000
namespace My
open PySem L2
noncomputable def sumN:Nat->(Nat->Int)->Int
 |0,_=>0
 |n+1,f=>sumN n f+f n
inductive Tr where
 |turned
 |cut (c:Nat×Nat)
 |split (k:Nat) (a b:Tr)
noncomputable def trD:Tr->D
 |.turned=>.tup [.str "turned"]
 |.cut c=>.tup [.str "cut",.int (c.1:Int),.int (c.2:Int)]
 |.split k a b=>.tup [.str "split",.int (k:Int),trD a,trD b]
noncomputable def tov(R:Ring)(fixed:List (Option Bool))(c:Nat×Nat)(i:Nat):Int:=match fixed.getD i none with
 |none=>if apart c (askAt R i).one (askAt R i).other then 1 else 0
 |some b=>(if onA R i c.1 == b then 1 else 0)+if onA R i c.2 == b then 1 else 0
noncomputable def fullZ(R:Ring)(q:Rat)(fixed:List (Option Bool))(c:Nat×Nat):Int:=sumN R.asks.length λi=>wI R q i*tov R fixed c i
def Tr.Ok(R:Ring)(w:Wish):List (Option Bool)->Tr->Prop
 |fixed,.turned=>w.most<(turnL w.elder fixed).length
 |fixed,.cut c=>IsCut R.n c/\muchZ w.strict (fullZ R w.top fixed c) (f0I R w.top c.1+f0I R w.top c.2)=true
 |fixed,.split k a b=>k<fixed.length/\fixed.getD k none=none/\Tr.Ok R w (fixed.set k (some true)) a/\Tr.Ok R w (fixed.set k (some false)) b
end My
set_option exponentiation.threshold 5000
namespace My
open PySem L2
structure Slide where
 k:Nat
 kw:Bool
 l:Nat
 lw:Bool
 am:Rat
noncomputable def nsQ(R:Ring)(ps:List Rat)(k:Nat)(w:Bool):Rat:=if w then R.sz k-ps.getD k 0 else ps.getD k 0
noncomputable def msQ(R:Ring)(ps:List Rat)(k:Nat)(kw:Bool)(l:Nat)(lw:Bool):Rat:=if nsQ R ps l lw<nsQ R ps k kw then nsQ R ps l lw else nsQ R ps k kw
noncomputable def noTie(n:Nat)(a:Ask)(aw:Bool)(b:Ask)(bw:Bool):Bool:=!((wayL n a aw).any λt=>decide (t∈wayL n b bw))
structure SlOk (R:Ring) (ps:List Rat):Prop where
 ok:R.Ok
 len:ps.length=R.asks.length
 lo:∀k,k<ps.length->0<=ps.getD k 0/\ps.getD k 0<=R.sz k
 cd:∃D:Nat,0<D/\D<2^1500/\(∀a∈R.asks,a.size.den∣D)/\∀p∈ps,p.den∣D
end My
set_option exponentiation.threshold 5000
namespace My
open PySem L2
end My
set_option exponentiation.threshold 5000
namespace My
open PySem L2
noncomputable def slB(R:Ring)(ps:List Rat)(s:Slide):Bool:=!decide (s.k=s.l) && (noTie R.n (askAt R s.k) s.kw (askAt R s.l) s.lw && (decide (0<s.am) && !decide (msQ R ps s.k s.kw s.l s.lw<s.am)))
end My
set_option exponentiation.threshold 5000
namespace My
open PySem L2
end My
set_option exponentiation.threshold 5000
namespace My
open PySem L2
noncomputable def Tr.nodes:Tr->Nat
 |.turned=>1
 |.cut _=>1
 |.split _ a b=>a.nodes+b.nodes+1
noncomputable def Tr.dep:Tr->Nat
 |.turned=>0
 |.cut _=>0
 |.split _ a b=>max a.dep b.dep+1
noncomputable def Tr.ns:Tr->Nat
 |.turned=>0
 |.cut _=>0
 |.split _ a b=>a.ns+b.ns+1
noncomputable def sumT(f:Tr->Nat)(ts:List Tr):Nat:=(ts.map f).sum
theorem sumT_app(f:Tr->Nat)(as bs:List Tr):sumT f (as++bs)=sumT f as+sumT f bs:=by simp[sumT]
theorem sumT_one(f:Tr->Nat)(t:Tr):sumT f [t]=f t:=by simp[sumT]
theorem okD_tr:∀t:Tr,okD (t.dep+1) (trD t)=true
 |.turned=>by decide +kernel
 |.cut c=>by simp[trD,okD,okDs,Tr.dep];decide +kernel
 | .split k a b=>by
  have h1:=okD_up (okD_tr a) (show a.dep+1<=max a.dep b.dep+1 by omega);have h2:=okD_up (okD_tr b) (show b.dep+1<=max a.dep b.dep+1 by omega);have h3:okD (max a.dep b.dep+1) (.str "split")=true:=by simp only[okD]; decide +kernel
  show okDs (max a.dep b.dep+1) [.str "split",.int (k:Int),trD a,trD b]=true;unfold okDs;rw[h3];unfold okDs;rw[show okD (max a.dep b.dep+1) (.int (k:Int))=true by simp[okD]];unfold okDs;rw[h1];unfold okDs;rw[h2];rfl
theorem shT:shapeD (.str (Str.ofString "turned")):=shape_ok (n:=0) zb zd
theorem shS:shapeD (.str (Str.ofString "split")):=shape_ok (n:=0) zb zd
theorem shC:shapeD (.str (Str.ofString "cut")):=shape_ok (n:=0) zb zd
structure Pt (n:Nat) (d:D):Prop where
 dep:depD d<=n
 wid:widD d<=99
 same:sameOk (20+n) d=true
theorem Pt.int(i:Int):Pt 0 (.int i):=⟨by simp[depD],by simp[widD],by simp[sameOk]⟩
theorem Pt.str(z:Str):Pt 0 (.str z):=⟨by simp[depD],by simp[widD],by simp[sameOk]⟩
end My
set_option exponentiation.threshold 5000
namespace My
open PySem L2
noncomputable def natOf:D->Option Nat
 |.int i=>if 0<=i then some i.toNat else none
 |_=>none
noncomputable def numbB(d:D)(n:Int):Bool:=match d with
 |.int i=>decide (0<=i/\i<n)
 |_=>false
end My
set_option exponentiation.threshold 5000
namespace My
open PySem L2 PyProof.Rows
noncomputable def numS(n:Int):Str:=Str.ofString (toString n)
noncomputable def figs(m:Nat):List Nat:=(Nat.toDigits 10 m).map Char.toNat
theorem str_cps{x y:Str}(h:x.cps.toList=y.cps.toList):x=y:=by cases x with|mk a=>cases y with|mk b=>exact congrArg Str.mk (by simpa using h)
theorem num_pos(m:Nat):(numS (m:Int)).cps.toList=figs m:=PySem.W.KIN.signs_num m
theorem num_neg(m:Nat):(numS (-((m+1:Nat):Int))).cps.toList=45::figs (m+1):=by unfold numS figs;rw[show toString (-((m+1:Nat):Int))="-"++Nat.repr (m+1)from rfl,signs_ofString,String.toList_append,bp,Nat.toList_repr];rfl
theorem fig_dig(m:Nat):NumText.AllDigits (figs m):=λc hc=>by obtain⟨ch,hch,e⟩:=List.mem_map.mp hc;rw[<- e];exact digit_range (Nat.isDigit_of_mem_toDigits zd zd hch)
theorem fig_ne(m:Nat):figs m≠[]:=λe=>by have:=Nat.length_toDigits_pos (b:=10) (n:=m);rw[List.map_eq_nil_iff.mp e]at this;cases this
theorem fig_val(m:Nat):NumText.digitsVal (figs m)=m:=PySem.W.KIN.val_back m
theorem fig_len{m k:Nat}(hk:0<k):(figs m).length<=k↔m<10^k:=by unfold figs;rw[aF];exact Nat.length_toDigits_le_iff zd hk
theorem num_cases(n:Int):(∃m:Nat,n=m/\(numS n).cps.toList=figs m)∨∃m:Nat,n=-((m+1:Nat):Int)/\(numS n).cps.toList=45::figs (m+1):=by
 rcases Int.lt_or_le n 0 with h|h
 .
  refine .inr ⟨n.natAbs-1,zZ,?_⟩;have e:n=-((n.natAbs-1+1:Nat):Int):=by omega
  have:=num_neg (n.natAbs-1);rw[<- e]at this;exact this
 . obtain⟨m,rfl⟩:=bF h;exact .inl ⟨m,rfl,num_pos m⟩
theorem len_cps(x:Str):x.length=x.cps.toList.length:=by show x.cps.size=_;simp
theorem num_reads{n:Int}(h:n.natAbs<10^600):intText? (numS n)=some n/\(numS n).length<=640:=by
 rcases num_cases n with⟨m,rfl,e⟩|⟨m,rfl,e⟩
 .
  have l:(figs m).length<=600:=(fig_len zd).mpr zZ;have l':(numS (m:Int)).length<=640:=by rw[len_cps,e];omega
  have:=PySem.intText_digits (x:=numS (m:Int)) (by rw[e];exact fig_dig m) (by rw[e];exact fig_ne m) zZ;rw[e,fig_val]at this;exact⟨this,l'⟩
 .
  have l:(figs (m+1)).length<=600:=(fig_len zd).mpr zZ;have l':(numS (-((m+1:Nat):Int))).length<=640:=by rw[len_cps,e,aK];omega
  have:=PySem.intText_neg (x:=numS (-((m+1:Nat):Int))) e (fig_dig _) (fig_ne _) zZ;rw[fig_val]at this;exact⟨this,l'⟩
noncomputable def wholeQ(x:Str):Option Int:=match intText? x with
 |some n=>if numS n=x/\n.natAbs<10^60 then some n else none
 |none=>none
noncomputable def whD:Option Int->D
 |some n=>.int n
 |none=>.non
theorem wh_num{n:Int}(h:n.natAbs<10^60):wholeQ (numS n)=some n:=by unfold wholeQ;rw[(num_reads (aq h zb)).1];exact if_pos ⟨rfl,h⟩
theorem wh_some{x:Str}{n:Int}(h:wholeQ x=some n):x=numS n/\n.natAbs<10^60:=by
 unfold wholeQ at h
 cases e:intText? x with
 |none=>rw[e]at h;cases h
 | some m =>
  rw[e]at h;dsimp only at h;split at h
  . rename_i c;cases h;exact⟨c.1.symm,c.2⟩
  . cases h
noncomputable def figL(cs:List Nat):List Nat:=if cs.head?=some 45 then cs.tail else cs
theorem fig_head(m:Nat):(figs m).head?≠some 45:=λe=>by have:=fig_dig m 45 (List.mem_of_head? e);omega
theorem figL_num{n:Int}(h:n.natAbs<10^60):NumText.AllDigits (figL (numS n).cps.toList)/\figL (numS n).cps.toList≠[]/\(figL (numS n).cps.toList).length<=60:=by
 rcases num_cases n with⟨m,rfl,e⟩|⟨m,rfl,e⟩
 . rw[e];unfold figL;rw[if_neg (fig_head m)];exact⟨fig_dig m,fig_ne m,(fig_len zd).mpr zZ⟩
 . rw[e];unfold figL;rw[if_pos (show(45::figs (m+1)).head?=some 45 from rfl)];exact⟨fig_dig _,fig_ne _,(fig_len zd).mpr zZ⟩
theorem wh_none{x:Str}(h:¬(NumText.AllDigits (figL x.cps.toList)/\figL x.cps.toList≠[]/\(figL x.cps.toList).length<=60)):wholeQ x=none:=by
 cases e:wholeQ x with
 |none=>rfl
 | some n =>
  obtain⟨rfl,hn⟩:=wh_some e;exact absurd (figL_num hn) h
theorem wh_read{x:Str}(h1:NumText.AllDigits (figL x.cps.toList))(h2:figL x.cps.toList≠[])(h3:(figL x.cps.toList).length<=60) :
  ∃n,intText? x=some n/\x.length<=640/\n.natAbs<10^60/\wholeQ x=if numS n=x then some n else none:=by
 have key:∀n,intText? x=some n->n.natAbs<10^60->wholeQ x=if numS n=x then some n else none:=λn e hn=>by
  unfold wholeQ;rw[e];dsimp only;by_cases c:numS n=x
  . rw[if_pos ⟨c,hn⟩,if_pos c]
  . rw[if_neg (λz=>c z.1),if_neg c]
 have dv:∀cs:List Nat,NumText.AllDigits cs->cs.length<=60->NumText.digitsVal cs<10^60:=by
  have dv':∀cs:List Nat,NumText.AllDigits cs->∀a,cs.foldl (λacc c=>acc*10+(c-48)) a<(a+1)*10^cs.length:=by
   intro cs
   induction cs with
   |nil=>intro _ a;simp
   | cons c cs ih =>
    intro hd a;have h0:=hd c ai;have:=ih (λd h=>hd d (ag _ h)) (a*10+(c-48));rw[List.foldl_cons,aK,Nat.pow_succ];refine aq this ?_;rw[Nat.mul_comm (10^cs.length) 10,<- Nat.mul_assoc];exact Nat.mul_le_mul_right _ zZ
  intro cs h l;have:=dv' cs h 0;rw[Nat.zero_add,Nat.one_mul]at this;exact aq this (bt zd l)
 have hl:x.length<=640:=by
  rw[len_cps];unfold figL at h3;split at h3
  . rw[List.length_tail]at h3;omega
  . omega
 by_cases c:x.cps.toList.head?=some 45
 .
  have e:x.cps.toList=45::figL x.cps.toList:=by
   unfold figL;rw[if_pos c]
   revert c
   cases x.cps.toList with
   |nil=>intro c;cases c
   |cons a cs=>intro c;cases c;rfl
  have r:=intText_neg e h1 h2 zZ;have b:=dv _ h1 h3;exact⟨_,r,hl,zZ,key _ r zZ⟩
 .
  have e:x.cps.toList=figL x.cps.toList:=by unfold figL;rw[if_neg c]
  have r:=intText_digits (x:=x) (by rw[e];exact h1) (by rw[e];exact h2) zZ;have b:=dv _ h1 h3;rw[<- e]at b;exact⟨_,r,hl,zZ,key _ r zZ⟩
theorem st_dash(x:Str):Txt.startswith x (Str.ofString "-")=decide (x.cps.toList.head?=some 45):=by
 have e:Str.ofString "-"=⟨#[45]⟩:=by decide +kernel
 rw[e];obtain⟨⟨l⟩⟩:=x
 cases l with
 |nil=>rfl
 | cons a cs =>
  show(decide (0+1<=(a::cs).length) && ((a::cs).toArray.extract 0 (0+1) == #[45]))=decide (some a=some 45);have h1:decide (0+1<=(a::cs).length)=true:=bz zY;have h2:(a::cs).toArray.extract 0 (0+1)=#[a]:=by simp
  rw[h1,h2,Bool.true_and];by_cases c:a=45
  . subst c;decide
  . rw[aZ (by simpa using c)];simp[c]
theorem fig_slice{x:Str}(h:x.cps.toList.head?=some 45):(Txt.slice x (some 1) none).cps.toList=figL x.cps.toList:=by
 have hl:1<=x.cps.toList.length:=by
  revert h
  cases x.cps.toList with
  |nil=>intro h;cases h
  |cons a cs=>intro _;simp
 rw[slice_from zd (by rw[len_cps];omega)];unfold figL;rw[if_pos h];exact List.drop_one
theorem fig_self{x:Str}(h:¬x.cps.toList.head?=some 45):x.cps.toList=figL x.cps.toList:=by unfold figL;rw[if_neg h]
noncomputable def digB(c:Nat):Bool:=strLe (Str.ofString "0") ⟨#[c]⟩ && strLe ⟨#[c]⟩ (Str.ofString "9")
theorem dig_is(c:Nat):digB c=true↔48<=c/\c<=57:=by
 have e0:(Str.ofString "0").cps.toList=[48]:=by decide +kernel
 have e9:(Str.ofString "9").cps.toList=[57]:=by decide +kernel
 have l:∀a b:Nat,([a] < [b])↔a<b:=λa b=>by rw[List.cons_lt_cons_iff];simp
 unfold digB strLe;rw[e0,e9,aI];show(!decide ([c] < [48]))=true/\(!decide ([57] < [c]))=true↔_;rw[Bool.not_eq_true',Bool.not_eq_true',decide_eq_false_iff_not,decide_eq_false_iff_not,l,l];omega
theorem dig_all(cs:List Nat):cs.all digB=true↔NumText.AllDigits cs:=by rw[bb];exact⟨λh c hc=>(dig_is c).mp (h c hc),λh c hc=>(dig_is c).mpr (h c hc)⟩
theorem log60{i:Int}(h:i.natAbs<10^60):i.natAbs.log2<1920:=by
 rcases Nat.eq_zero_or_pos i.natAbs with e|e
 . rw[e];decide
 . exact Nat.lt_trans ((Nat.log2_lt zZ).mpr (Nat.lt_trans h (show 10^60<2^200 by decide))) zd
theorem shape_asc{x:Str}(h:∀c∈x.cps.toList,c<128):shapeD (.str x):=shape_ok (n:=0) (by
 show PyData.strOk x=true;unfold PyData.strOk;simp only[Array.all_eq_true_iff_forall_mem];intro c hc;have:=h c (Array.mem_toList_iff.mpr hc);simp
 omega) zd
theorem join_mem(y:Str):∀(ps:List Str)(p:Str),p∈ps->∀c∈p.cps.toList,c∈(Str.join y ps).cps.toList
 |[],p,hp,c,hc=>by cases hp
 | [q],p,hp,c,hc=>by rw[aP.mp hp]at hc;exact hc
 | q::r::ps,p,hp,c,hc=>by
  show c∈(q.cps++y.cps++(Str.join y (r::ps)).cps).toList;rw[bY,bY];rcases az.mp hp with rfl|hp
  . exact au _ (au _ hc)
  . exact ar _ (join_mem y (r::ps) p hp c hc)
end My
namespace My
open PySem L2 PySem.Builtin.Str
structure As (n:Nat) (x:Str):Prop where
 len:x.length<=n
 asc:∀c∈x.cps.toList,c<128
theorem As.mono{n m:Nat}{x:Str}(h:As n x)(k:n<=m):As m x:=⟨aY h.len k,h.asc⟩
theorem slice_mem(x:Str)(l u:Option Int):∀c∈(Txt.slice x l u).cps.toList,c∈x.cps.toList:=by
 intro c;unfold Txt.slice;split
 . exact id
 . intro hc;have hc:c∈((strSliceIndices l u 1 x.length).filterMap (x.cps[·]?)).toArray.toList:=hc;rw[List.toList_toArray]at hc;obtain⟨i,_,e⟩:=List.mem_filterMap.mp hc;exact Array.mem_toList_iff.mpr (Array.mem_of_getElem? e)
theorem As.slice{n:Nat}{x:Str}(h:As n x)(l u:Option Int):As n (Txt.slice x l u) :=
 ⟨aY (Txt.slice_le x l u) h.len,λc hc=>h.asc c (slice_mem x l u c hc)⟩
theorem as_con{n:Nat}{x:Str}(h:(decide (x.length<=n) && x.cps.toList.all (· < 128))=true):As n x:=by obtain⟨a,b⟩:=bD.mp h;exact⟨bS a,λc hc=>bS (bb.mp b c hc)⟩
def TS(P:Str->Prop)(t:W L)(Z:Ev):Prop:=∀af:L->Ev->Prop,(∀x,P x->af (.d (.str x)) Z)->t Z af
theorem TS.mono{P Q:Str->Prop}{t:W L}{Z:Ev}(h:TS P t Z)(k:∀x,P x->Q x):TS Q t Z:=λaf hp=>h af λx hx=>hp x (k x hx)
end My
namespace My
open PySem L2 PySem.Builtin PySem.Builtin.Str PySem.StrLaws
def NoSub(y q:List Nat):Prop:=∀k,(q.drop k).take y.length≠y
noncomputable def jn(y:List Nat):List (List Nat)->List Nat
 |[]=>[]
 |[p]=>p
 |p::q::r=>p++y++jn y (q::r)
theorem jn_cons{y p:List Nat}{r:List (List Nat)}(h:r≠[]):jn y (p::r)=p++(y++jn y r):=by
 cases r with
 |nil=>exact absurd rfl h
 |cons q r=>exact aV _ _ _
theorem at_after{α:Type}{p y r:List α}:((p++(y++r)).drop p.length).take y.length=y:=by rw[List.drop_left,List.take_left]
theorem noSub_app{c:Nat}{z p q r s:List Nat}(hc:c∉z)(hp:c∉p)(hq:NoSub (c::z) q)(e:p++(c::z++r)=q++(c::z++s)):p=q/\r=s:=by
 have hl:p.length=q.length:=by
  rcases Nat.lt_trichotomy p.length q.length with l|l|l
  .
   exfalso;by_cases m:p.length+(c::z).length<=q.length
   . refine hq p.length ?_;have:=at_after (p:=p) (y:=c::z) (r:=r);rw[e]at this;rw[List.drop_append_of_le_length zZ,List.take_append_of_le_length (by rw[aU];omega)]at this;exact this
   .
    have e2:(p++(c::z++r))[q.length]?=some c:=by rw[e,aj (ao _),Nat.sub_self];rfl
    rw[aj zZ]at e2;obtain⟨j,hj⟩:∃j,q.length-p.length=j+1:=⟨q.length-p.length-1,zZ⟩;rw[hj,List.cons_append,List.getElem?_cons_succ,aE (by simp at m;omega)]at e2;exact hc (bu e2)
  . exact l
  .
   exfalso;have e2:(q++(c::z++s))[q.length]?=some c:=by rw[aj (ao _),Nat.sub_self];rfl
   rw[<- e,aE l]at e2;exact hp (bu e2)
 obtain⟨e1,e2⟩:=List.append_inj e hl;exact⟨e1,(List.append_inj e2 rfl).2⟩
theorem jn_inj{c:Nat}{z:List Nat}(hc:c∉z):∀(ps qs:List (List Nat)),ps≠[]->qs≠[]->(∀p∈ps,c∉p)->(∀q∈qs,NoSub (c::z) q)->jn (c::z) ps=jn (c::z) qs->ps=qs
 |[],_,h,_,_,_,_=>absurd rfl h
 |_,[],_,h,_,_,_=>absurd rfl h
 |[p],[q],_,_,_,_,e=>by rw[show p=q from e]
 | [p],q::q2::qs,_,_,hp,_,e=>by
  rw[show jn (c::z) [p]=p from rfl,jn_cons (r:=q2::qs) zY]at e;have e2:p[q.length]?=some c:=by rw[show p=_ from e,aj (ao _),Nat.sub_self];rfl
  exact absurd (bu e2) (hp p zY)
 | p::p2::ps,[q],_,_,_,hq,e=>by rw[jn_cons (r:=p2::ps) zY,show jn (c::z) [q]=q from rfl]at e;have:=at_after (p:=p) (y:=c::z) (r:=jn (c::z) (p2::ps));rw[e]at this;exact absurd this (hq q zY p.length)
 | p::p2::ps,q::q2::qs,_,_,hp,hq,e=>by rw[jn_cons (r:=p2::ps) zY,jn_cons (r:=q2::qs) zY]at e;obtain⟨e1,e2⟩:=noSub_app hc (hp p zY) (hq q zY) e;rw[e1,jn_inj hc (p2::ps) (q2::qs) zY zY (λa ha=>hp a (ag _ ha)) (λa ha=>hq a (ag _ ha)) e2]
theorem join_jn(y:Str):∀ps:List Str,(Str.join y ps).cps.toList=jn y.cps.toList (ps.map (·.cps.toList))
 |[]=>rfl
 |[p]=>rfl
 | p::q::r=>by show(p.cps++y.cps++(Str.join y (q::r)).cps).toList=_;rw[bY,bY,join_jn y (q::r)];rfl
theorem sub_noSub{x y:Str}{a b:Nat}(hy:1<=y.length)(hb:b<=x.length)(hn:∀k,a<=k->k<b->¬At x y x.length k):NoSub y.cps.toList (strSub x a b).cps.toList:=by intro k e;rw[strSub_toList]at e;have hl:y.cps.toList.length=y.length:=(len_cps y).symm;have hx:x.cps.toList.length=x.length:=(len_cps x).symm;have ae:=congrArg List.length e;rw[bZ,aU,bZ,aU]at ae;rw[hl,hx]at ae;refine hn (a+k) zZ zZ ⟨zZ,?_⟩;rw[subAt_eq];rw[beq_iff_eq,<- e,List.drop_take,List.take_take,List.drop_drop,hl,Nat.min_eq_left zZ]
theorem parts_noSub{x y:Str}(hy:1<=y.length):∀(cuts:List Nat)(a f:Nat),ChainG x y x.length a cuts f->(∀k,f<=k->¬At x y x.length k)->∀p∈partsFrom x y.length a cuts,NoSub y.cps.toList p.cps.toList
 | [],a,f,h,hn,p,hp=>by have e:f=a:=h;subst e;rw[aP.mp hp];exact sub_noSub hy (ao _) λk h1 _=>hn k h1
 | d::r,a,f,h,hn,p,hp=>by
  rcases az.mp hp with rfl|hp'
  . exact sub_noSub hy (by have:=h.2.1.1;omega) h.2.2.1
  . exact parts_noSub hy r _ f h.2.2.2 hn p hp'
theorem kind_pos(x:Str):1<=Str.strKind x:=by
 unfold Str.strKind;split
 . exact ao _
 . split<;>decide
theorem split_noSub{x y:Str}(hy:1<=y.length)(hk:Str.strKind y=1):∀p∈Txt.split x y,NoSub y.cps.toList p.cps.toList:=by
 obtain⟨f,hG,hn⟩:=occ_tight x y hy;unfold Txt.split;split
 . rename_i hc;intro p hp;rw[aP.mp hp];rw[Bool.or_eq_true,bE,bE]at hc;have:=kind_pos x;intro k e;have ae:=congrArg List.length e;rw[bZ,aU,<- len_cps,<- len_cps]at ae;omega
 .
  split
  . rename_i he;intro p hp;rw[aP.mp hp];have e0:occurrences x y 0 x.length (x.length+1)=[]:=List.isEmpty_iff.mp he;rw[e0]at hG;have ef:f=0:=hG;subst ef;have:=sub_noSub (x:=x) (a:=0) hy (ao _) λk h1 _=>hn k h1;rwa [sub_whole]at this
  . rw[partsBetween_eq];exact parts_noSub hy _ 0 f hG hn
theorem split_ne(x y:Str):Txt.split x y≠[]:=by
 unfold Txt.split;split
 . simp
 .
  split
  . simp
  . rw[partsBetween_eq];obtain⟨p,r,e⟩:=partsFrom_ne x y.length 0 (occurrences x y 0 x.length (x.length+1));rw[e];simp
structure Sep (y:Str) (c:Nat):Prop where
 z:∃z,y.cps.toList=c::z/\c∉z
 kind:Str.strKind y=1
theorem split_join{y:Str}{c:Nat}(hy:Sep y c){ps:List Str}(h:ps≠[])(hf:∀p∈ps,c∉p.cps.toList):Txt.split (Str.join y ps) y=ps:=by
 obtain⟨z,ez,hz⟩:=hy.z;have hl:1<=y.length:=by rw[len_cps,ez,aK];omega
 have e:=congrArg (·.cps.toList) (join_split (Str.join y ps) y);rw[join_jn,join_jn y ps,ez]at e
 have key:=jn_inj hz (ps.map (·.cps.toList)) ((Txt.split (Str.join y ps) y).map (·.cps.toList)) (by simpa using h) (by simpa using split_ne _ _) (λp hp=>by
  obtain⟨q,hq,rfl⟩:=List.mem_map.mp hp
  exact hf q hq) (λp hp=>by
  obtain⟨q,hq,rfl⟩:=List.mem_map.mp hp;have:=split_noSub hl hy.kind q hq
  rwa [ez]at this) e.symm
 refine(List.map_inj_right (λa b hab=>str_cps hab)).mp key.symm
theorem sep_blank:Sep (Str.ofString " ") 32:=⟨⟨[],zb,zY⟩,zb⟩
theorem tj(z:Str)(zs:List Str):Txt.join z zs=Str.join z zs:=eq_of_beq (PyProof.Rows.join_plain_closes z zs)
theorem part_as{x y:Str}{n:Nat}(h:As n x):∀p∈Txt.split x y,As n p:=λp hp=>by refine⟨aY (PyProof.Rows.part_short hp) h.len,λc hc=>?_⟩;have:=join_mem y _ p hp c hc;rw[StrLaws.join_split]at this;exact h.asc c this
theorem spl_as{x y:Str}{n:Nat}(h:As n x)(hn:n<=1000000)(hy:(y.length == 0)=false):SplOk x y:=by
 have e:sizeLine=16777216:=by decide
 have:=PyProof.Rows.split_le x y;have:=h.len;exact⟨hy,zZ,zZ⟩
end My
set_option exponentiation.threshold 5000
namespace My
open PySem L2 PySem.Builtin PySem.Builtin.Str PySem.StrLaws
theorem app_cps(x y:Str):(x++y).cps.toList=x.cps.toList++y.cps.toList:=bY
theorem slice_clip{x:Str}{l:Option Int}{j j':Int}(h:max 0 (min (if j<0 then j+x.length else j) (x.length:Int))=max 0 (min (if j' < 0 then j'+x.length else j') (x.length:Int))):Txt.slice x l (some j)=Txt.slice x l (some j'):=by
 have e:strSliceIndices l (some j) 1 x.length=strSliceIndices l (some j') 1 x.length:=by unfold strSliceIndices;simp only[show((1:Int) > 0)=True from by simp,if_true];rw[h]
 unfold Txt.slice;cases l<;>(show Str.mk _=Str.mk _;rw[e])
theorem slice_mid{x:Str}{i j:Int}(h0:0<=i)(h1:i<=j)(h2:i<=x.length):(Txt.slice x (some i) (some j)).cps.toList=(x.cps.toList.drop i.toNat).take (j-i).toNat:=by
 have hl:=len_cps x;by_cases c:j<=x.length
 . rw[eq_of_beq (PyProof.Rows.slice_closesL h0 h1 c)]
 . rw[slice_clip (j':=(x.length:Int)) (by rw[if_neg (by omega),if_neg (by omega)];omega),eq_of_beq (PyProof.Rows.slice_closesL h0 h2 (Int.le_refl _))];show(x.cps.toList.drop i.toNat).take ((x.length:Int)-i).toNat=_;rw[bA,bA]<;>rw[aU]<;>omega
theorem slice_back{x:Str}{i:Int}(h0:0<=i)(h1:i+1<=x.length):(Txt.slice x (some i) (some (-1))).cps.toList=(x.cps.toList.drop i.toNat).take ((x.length:Int)-1-i).toNat:=by rw[slice_clip (j':=(x.length:Int)-1) (by rw[if_pos (by omega),if_neg (by omega)];omega)];exact slice_mid h0 zZ zZ
noncomputable abbrev cT:List Nat:=[116,117,114,110,101,100]
noncomputable abbrev cC:List Nat:=[99,117,116]
noncomputable abbrev cS:List Nat:=[115,112,108,105,116]
noncomputable def trL:Tr->List Nat
 |.turned=>cT
 |.cut c=>cC++([32]++(figs c.1++([32]++figs c.2)))
 |.split k a b=>(cS++([32]++figs k))++([32,91]++(trL a++([32,124,32]++(trL b++[93]))))
noncomputable def trS(t:Tr):Str:=⟨(trL t).toArray⟩
theorem trS_cps(t:Tr):(trS t).cps.toList=trL t:=by simp[trS]
theorem trS_is{t:Tr}{x:Str}(h:x.cps.toList=trL t):x=trS t:=str_cps (by rw[h,trS_cps])
def TrOk:Tr->Prop
 |.turned=>True
 |.cut c=>c.1<12/\c.2<12
 |.split k a b=>k<20/\TrOk a/\TrOk b
theorem fig_two{k:Nat}(h:k<100):(figs k).length<=2:=(fig_len zd).mpr zZ
theorem fig_sign{k c:Nat}(h:c∈figs k):48<=c/\c<=57:=fig_dig k c h
theorem eT:(Str.ofString "turned").cps.toList=cT:=by decide +kernel
theorem eC:(Str.ofString "cut").cps.toList=cC:=by decide +kernel
theorem eS:(Str.ofString "split").cps.toList=cS:=by decide +kernel
theorem eB:(Str.ofString " ").cps.toList=[32]:=by decide +kernel
theorem eO:(Str.ofString " [").cps.toList=[32,91]:=by decide +kernel
theorem eBar:(Str.ofString " | ").cps.toList=[32,124,32]:=by decide +kernel
theorem eE:(Str.ofString "]").cps.toList=[93]:=by decide +kernel
theorem trL_len:∀{t:Tr},TrOk t->(trL t).length<=14*t.nodes
 |.turned,_=>by decide
 | .cut c,h=>by have h1:=fig_two (k:=c.1) (by have:=h.1;omega);have h2:=fig_two (k:=c.2) (by have:=h.2;omega);simp only[trL,aC,aK,bq,Tr.nodes];omega
 | .split k a b,h=>by have h1:=fig_two (k:=k) (by have:=h.1;omega);have h2:=trL_len h.2.1;have h3:=trL_len h.2.2;simp only[trL,aC,aK,bq,Tr.nodes];omega
theorem trL_asc:∀{t:Tr},∀c∈trL t,c<128
 |.turned=>by decide
 | .cut q=>by
  intro c hc;simp only[trL,aM,az,bh,or_false]at hc;rcases hc with hc|rfl|hc|rfl|hc
  . rcases hc with rfl|rfl|rfl<;>decide
  . decide
  . have:=fig_sign hc;omega
  . decide
  . have:=fig_sign hc;omega
 | .split k a b=>by
  intro c hc;simp only[trL,aM,az,bh,or_false]at hc;rcases hc with(hc|rfl|hc)|hc|hc|hc|hc|rfl
  . rcases hc with rfl|rfl|rfl|rfl|rfl<;>decide
  . decide
  . have:=fig_sign hc;omega
  . rcases hc with rfl|rfl<;>decide
  . exact trL_asc c hc
  . rcases hc with rfl|rfl|rfl<;>decide
  . exact trL_asc c hc
  . decide
theorem trS_as{t:Tr}(h:TrOk t):As (14*t.nodes) (trS t):=⟨by rw[len_cps,trS_cps];exact trL_len h,λc hc=>trL_asc c (by rw[trS_cps]at hc;exact hc)⟩
theorem noS_free{p:List Nat}(h:NoSub [32] p):32∉p:=by intro hm;obtain⟨i,hi,e⟩:=List.mem_iff_getElem.mp hm;refine h i ?_;show(p.drop i).take 1=[32];rw[bB hi,e];rfl
theorem split_head{x p r:Str}(hx:x.cps.toList=p.cps.toList++([32]++r.cps.toList))(hp:32∉p.cps.toList):Txt.split x (Str.ofString " ")=p::Txt.split r (Str.ofString " "):=by
 have hr:=join_split r (Str.ofString " ");have ne:=split_ne r (Str.ofString " ")
 have e:x=Str.join (Str.ofString " ") (p::Txt.split r (Str.ofString " ")):=str_cps (by
  rw[join_jn,aL,jn_cons (by simpa using ne),<- join_jn,hr,eB,hx])
 rw[e];refine split_join sep_blank zY λq hq=>?_;rcases az.mp hq with rfl|hq
 . exact hp
 . have:=split_noSub (x:=r) (y:=Str.ofString " ") zb zb q hq;rw[eB]at this;exact noS_free this
theorem split_whole{x:Str}(hp:32∉x.cps.toList):Txt.split x (Str.ofString " ")=[x]:=by
 have:=split_join sep_blank (ps:=[x]) zY λq hq=>by rw[aP.mp hq];exact hp
 exact this
theorem num_free{n:Nat}:32∉(numS (n:Int)).cps.toList:=by rw[num_pos];intro h;have:=fig_sign h;omega
theorem trS_turned:trS .turned=Str.ofString "turned":=str_cps (by rw[trS_cps,eT]; rfl)
theorem spl_turned:Txt.split (trS .turned) (Str.ofString " ")=[Str.ofString "turned"]:=by rw[split_whole (by rw[trS_cps];decide),trS_turned]
theorem spl_cut(c:Nat×Nat):Txt.split (trS (.cut c)) (Str.ofString " ")=[Str.ofString "cut",numS (c.1:Int),numS (c.2:Int)]:=by
 rw[split_head (p:=Str.ofString "cut") (r:=⟨(figs c.1++([32]++figs c.2)).toArray⟩) (by rw[trS_cps,eC]; simp[trL]) zb,
  split_head (p:=numS (c.1:Int)) (r:=numS (c.2:Int)) (by rw[num_pos,num_pos]) num_free,split_whole num_free]
theorem spl_split(k:Nat)(a b:Tr):∃ r,Txt.split (trS (.split k a b)) (Str.ofString " ")=Str.ofString "split"::r :=
 ⟨_,split_head (p:=Str.ofString "split") (r:=⟨(figs k++([32,91]++(trL a++([32,124,32]++(trL b++[93]))))).toArray⟩) (by rw[trS_cps,eS]; simp[trL]) zb⟩
theorem ptn_first{x p r:Str}(hx:x.cps.toList=p.cps.toList++([32,91]++r.cps.toList))(hp:91∉p.cps.toList):Txt.partition x (Str.ofString " [")=(p,Str.ofString " [",r):=by
 have hl:(Str.ofString " [").length=2:=by decide +kernel
 have hpl:=len_cps p;have at_is:∀ i,StrLaws.At x (Str.ofString " [") x.length i↔(i+2<=x.length/\(x.cps.toList.drop i).take 2=[32,91]):=λi=>by unfold StrLaws.At;rw[hl,subAt_eq,hl,eO,beq_iff_eq]
 have hxl:x.length=p.length+(2+r.length):=by rw[len_cps,hx,len_cps p,len_cps r];simp;omega
 have here:StrLaws.At x (Str.ofString " [") x.length p.length:=(at_is _).mpr ⟨zZ,by rw[hx,hpl,List.drop_left]; rfl⟩;rcases PyProof.Rows.partition_whole x (Str.ofString " [")with⟨_,hn⟩ | ⟨i,e,hi,hn⟩
 . exact absurd here (hn _)
 .
  have hip:i=p.length:=by
   rcases Nat.lt_trichotomy i p.length with c|c|c
   .
    exfalso;obtain⟨_,e2⟩:=(at_is i).mp hi
    have e3:x.cps.toList[i+1]?=some 91:=by
     have:((x.cps.toList.drop i).take 2)[1]?=some 91:=by rw[e2];rfl
     rw[List.getElem?_take_of_lt zd,List.getElem?_drop]at this;exact this
    rw[hx]at e3;by_cases d:i+1<p.length
    . rw[aE zZ]at e3;exact hp (bu e3)
    .
     have d:i+1=p.cps.toList.length:=by omega
     rw[d,aj (ao _),Nat.sub_self]at e3;cases e3
   . exact c
   . exact absurd here (hn _ c)
  subst hip;rw[e];refine Prod.ext ?_ (Prod.ext rfl ?_)
  . refine str_cps ?_;show(strSub x 0 p.length).cps.toList=_;rw[strSub_toList,hx,hpl];simp
  . refine str_cps ?_;show(strSub x (p.length+(Str.ofString " [").length) x.length).cps.toList=_;rw[strSub_toList,hl,hx,hxl,hpl,<- List.drop_drop,List.drop_left];show(List.drop 2 (32::91::r.cps.toList)).take _=_;rw[List.drop_succ_cons,List.drop_succ_cons,List.drop_zero,bA];rw[<- len_cps r];omega
noncomputable def brW(c:Nat):Int:=if c=91 then 1 else if c=93 then -1 else 0
noncomputable def barQ:Int->List Nat->Option Nat
 |_,[]=>none
 |w,c::l=>if w+brW c=0/\(c::l).take 3=[32,124,32]then some 0 else(barQ (w+brW c) l).map (·+1)
theorem barQ_cons(w:Int)(c:Nat)(l:List Nat):barQ w (c::l)=if w+brW c=0/\(c::l).take 3=[32,124,32]then some 0 else(barQ (w+brW c) l).map (·+1):=by rw[barQ]
def clo(m:Int)(A:List Nat):Prop:=∀w R,m<=w->barQ w (A++R)=(barQ w R).map (·+A.length)
theorem clo_nil{m:Int}:clo m []:=λw R _=>by simp
theorem clo_app{m:Int}{A B:List Nat}(a:clo m A)(b:clo m B):clo m (A++B):=λw R hw=>by
 rw[aV,a w _ hw,b w _ hw,Option.map_map,aC]
 congr 1
 funext z
 show z+B.length+A.length=z+(A.length+B.length);omega
theorem clo_up{A:List Nat}(a:clo 0 A):clo 1 A:=λw R hw=>a w R zZ
theorem brW0{c:Nat}(h1:c≠91)(h2:c≠93):brW c=0:=by unfold brW;rw[if_neg h1,if_neg h2]
theorem clo_one{m:Int}{c:Nat}(h:c≠32)(h1:c≠91)(h2:c≠93):clo m [c]:=λw R _=>by show barQ w (c::R)=_;rw[barQ_cons];rw[brW0 h1 h2,Int.add_zero,if_neg (λz=>by have:=z.2;simp at this;exact h this.1)];rfl
theorem clo_all{m:Int}:∀{A:List Nat},(∀c∈A,c≠32/\c≠91/\c≠93)->clo m A
 |[],_=>clo_nil
 |c::A,h=>clo_app (A:=[c]) (clo_one (h c zY).1 (h c zY).2.1 (h c zY).2.2) (clo_all λd hd=>h d (ag _ hd))
theorem clo_blank{m:Int}{d:Nat}{A:List Nat}(hd:d≠124)(a:clo m (d::A)):clo m (32::d::A):=λw R hw=>by show barQ w (32::(d::(A++R)))=_;rw[barQ_cons];rw[show brW 32=0 from rfl,Int.add_zero,if_neg (λz=>by have:=z.2;simp at this;exact hd this.1)];have:=a w R hw;rw[show d::A++R=d::(A++R)from rfl]at this;rw[this,Option.map_map];rfl
theorem clo_one1{c:Nat}(h1:c≠91)(h2:c≠93):clo 1 [c]:=λw R hw=>by show barQ w (c::R)=_;rw[barQ_cons];rw[brW0 h1 h2,Int.add_zero,if_neg (λz=>by have:=z.1;omega)];rfl
theorem clo_br{M:List Nat}(h:clo 1 M):clo 0 (91::(M++[93])):=λw R hw=>by
 show barQ w (91::(M++[93]++R))=_;rw[barQ_cons];rw[show brW 91=1 from rfl,if_neg (λz=>by have:=z.1;omega),aV,h (w+1) _ zZ];show((barQ (w+1) (93::R)).map _).map _=_;rw[barQ_cons];rw[show w+1+brW 93=w by show w+1+(-1)=w;omega,if_neg (λz=>by have:=z.2;simp at this),Option.map_map,Option.map_map]
 congr 1
 funext z
 simp;omega
theorem clo_figs{m:Int}(k:Nat):clo m (figs k):=clo_all λc hc=>by have:=fig_sign hc;omega
theorem clo_bfigs{m:Int}(k:Nat):clo m (32::figs k):=by
 have h:=clo_figs (m:=m) k;have ne:=fig_ne k;have sg:∀c∈figs k,48<=c/\c<=57:=λc hc=>fig_sign hc
 revert h ne sg
 cases figs k with
 |nil=>intro _ ne;exact absurd rfl ne
 | cons d A =>
  intro h _ sg;refine clo_blank ?_ h;have:=sg d zY;omega
theorem clo_tr:∀t:Tr,clo 0 (trL t)
 |.turned=>clo_all zd
 |.cut c=>clo_app (clo_all zd) (clo_app (A:=32::figs c.1) (clo_bfigs _) (clo_bfigs c.2))
 | .split k a b=>by
  refine clo_app (clo_app (clo_all zd) (clo_bfigs k)) ?_;have e:[32,91]++(trL a++([32,124,32]++(trL b++[93])))=32::91::((trL a++([32,124,32]++trL b))++[93]):=by simp
  rw[e];refine clo_blank zd (clo_br (clo_app (clo_up (clo_tr a)) (clo_app ?_ (clo_up (clo_tr b)))));exact clo_app (A:=[32]) (clo_one1 zd zd) (clo_app (A:=[124]) (clo_one1 zd zd) (clo_one1 zd zd))
theorem bar_tr(a b:Tr):barQ 0 (trL a++([32,124,32]++(trL b++[93])))=some (trL a).length:=by rw[clo_tr a 0 _ (Int.le_refl _)];show(barQ 0 (32::124::32::(trL b++[93]))).map _=_;rw[barQ_cons];rw[if_pos ⟨rfl,rfl⟩];simp
theorem As.ok{n:Nat}{x:Str}(h:As n x):PyData.strOk x=true:=by unfold PyData.strOk;simp only[Array.all_eq_true_iff_forall_mem];intro c hc;have:=h.asc c (Array.mem_toList_iff.mpr hc);simp;omega
theorem sh_strs{n:Nat}{zs:List Str}(h:∀z∈zs,As n z):shapeD (.lst (zs.map D.str)):=shape_ok (n:=1) (by
 show okDs 0 (zs.map D.str)=true
 exact okDs_map zs λz hz=>by simpa[okD]using(h z hz).ok) zd
theorem sh_as{n:Nat}{x:Str}(h:As n x):shapeD (.str x):=shape_asc h.asc
theorem as_turned:As 6 (Str.ofString "turned"):=as_con zb
theorem as_cut:As 3 (Str.ofString "cut"):=as_con zb
theorem as_split:As 5 (Str.ofString "split"):=as_con zb
theorem eqD_head{x y:Str}{xs ys:List D}(h:x≠y):eqD (.lst (.str x::xs)) (.lst (.str y::ys))=false:=by rw[eqD_lst,eqDs_cons,eqD_str,aZ h,Bool.false_and]
theorem cut_init{α:Type}(us:List α)(p q:α):cutD (us++[p,q]) none (some (-2))=us:=by
 have hl:(us++[p,q]).length=us.length+2:=by simp
 unfold cutD
 rw[hl,HT.sIx_none,show HT.sIx (us.length+2) (us.length+2) (some (-2))=us.length by show(if(-2:Int)<0 then((-2:Int)+((us.length+2:Nat):Int)).toNat else min (-2:Int).toNat (us.length+2))=us.length;rw[if_pos (by decide)];omega]
 simp
theorem cut_two{α:Type}(us:List α)(p q:α):cutD (us++[p,q]) (some (-2)) none=[p,q]:=by
 have hl:(us++[p,q]).length=us.length+2:=by simp
 unfold cutD
 rw[hl,HT.sIx_none,show HT.sIx (us.length+2) 0 (some (-2))=us.length by show(if(-2:Int)<0 then((-2:Int)+((us.length+2:Nat):Int)).toNat else min (-2:Int).toNat (us.length+2))=us.length;rw[if_pos (by decide)];omega]
 simp
theorem at_last{α:Type}(us:List α)(p q:α):atI (us++[p,q]) (-1)=some q:=atI_neg1 (by
 rw[show(us++[p,q]).length-1=us.length+1 by simp,aj zZ,show us.length+1-us.length=1 by omega]
 rfl)
theorem at_prev{α:Type}(us:List α)(p q:α):atI (us++[p,q]) (-2)=some p:=by unfold atI ixN;rw[if_neg (by decide),if_pos (by simp;omega)];rw[show(us++[p,q]).length=us.length+2 by simp];show(us++[p,q])[_]?=_;rw[show((-2:Int)+((us.length+2:Nat):Int)).toNat=us.length by omega,aj (ao _),Nat.sub_self];rfl
theorem two_last{α:Type}{ts:List α}(h:1<ts.length):∃us p q,ts=us++[p,q]:=by
 refine⟨ts.take (ts.length-2),ts[ts.length-2],ts[ts.length-1],?_⟩;have e:=List.take_append_drop (ts.length-2) ts
 conv=>lhs;rw[<- e]
 congr 1
 rw[bB zZ,show ts.length-2+1=ts.length-1 by omega,bB zZ,List.drop_eq_nil_of_le zZ]
noncomputable def depD(t:Tr):D:=.int (t.dep:Int)
structure TsOk (m:Nat) (ts:List Tr):Prop where
 one:0<ts.length
 all:∀t∈ts,TrOk t/\t.dep<=20
 sum:sumT Tr.nodes ts+ts.length<=m
theorem sumT_cons(f:Tr->Nat)(t:Tr)(ts:List Tr):sumT f (t::ts)=f t+sumT f ts:=by simp[sumT]
theorem TsOk.mono{m n:Nat}{ts:List Tr}(h:TsOk m ts)(k:m<=n):TsOk n ts:=⟨h.one,h.all,aY h.sum k⟩
theorem TsOk.join{m:Nat}{us:List Tr}{p q:Tr}{k:Nat}(h:TsOk m (us++[p,q]))(hk:k<20)(hd:max p.dep q.dep<20):TsOk m (us++[.split k p q]):=by
 have hp:=h.all p zY;have hq:=h.all q zY;have hs:=h.sum;refine⟨zY,λt ht=>?_,?_⟩
 .
  rcases aM.mp ht with ht|ht
  . exact h.all t (by simp[ht])
  . rw[aP.mp ht];exact⟨⟨hk,hp.1,hq.1⟩,by show max p.dep q.dep+1<=20;omega⟩
 . rw[sumT_app,sumT_one,aC];rw[sumT_app,sumT_cons,sumT_one,aC]at hs;simp only[aK,bq]at hs ⊢;show _+(p.nodes+q.nodes+1)+_<=m;omega
theorem TsOk.add{m:Nat}{ts:List Tr}{t:Tr}(h:ts=[]∨TsOk m ts)(hn:t.nodes=1)(hd:t.dep=0)(ok:TrOk t):TsOk (m+2) (ts++[t]):=by
 refine⟨zY,λu hu=>?_,?_⟩
 .
  rcases aM.mp hu with hu|hu
  .
   rcases h with rfl|h
   . cases hu
   . exact h.all u hu
  . rw[aP.mp hu];exact⟨ok,zZ⟩
 .
  rw[sumT_app,sumT_one,hn,aC];rcases h with rfl|h
  . show 0+1+(0+1)<=m+2;omega
  . have:=h.sum;simp only[aK,bq];omega
theorem TsOk.pop{m:Nat}{us:List Tr}{p q:Tr}(h:TsOk m (us++[p,q])):TsOk m (us++[p]):=by
 have hs:=h.sum;refine⟨zY,λt ht=>h.all t ?_,?_⟩
 .
  rcases aM.mp ht with ht|ht
  . simp[ht]
  . rw[aP.mp ht];simp
 . rw[sumT_app,sumT_one,aC];rw[sumT_app,sumT_cons,sumT_one,aC]at hs;simp only[aK,bq]at hs ⊢;omega
theorem TsOk.nodes{m:Nat}{ts:List Tr}{t:Tr}(h:TsOk m ts)(ht:t∈ts):t.nodes<=m:=by
 have hs:=h.sum
 have:t.nodes<=sumT Tr.nodes ts:=by
  clear h hs
  induction ts with
  |nil=>cases ht
  | cons u ts ih =>
   rw[sumT_cons];rcases az.mp ht with rfl|ht
   . omega
   . have:=ih ht;omega
 omega
def fsr_split_in(n:Nat):FS:=λls af=>∃(k:Nat)(a b:Tr)(s:Int),ls=[.d (.str (trS (.split k a b))),.d (.int s)]/\TrOk (.split k a b)/\2*(Tr.split k a b).dep<=n/\0<n/\((Tr.split k a b).dep:Int)<=s/\s<=100/\(Tr.split k a b).nodes<=1000/\af (.d (trD (.split k a b))) ls
theorem no_split_in(ls:List L)(af:L->List L->Prop):¬fsr_split_in 0 ls af:=by rintro⟨k,a,b,s,_,_,_,h,_⟩;exact absurd h (Nat.not_lt_zero _)
def fsr_tree_in(n:Nat):FS:=λls af=>∃(t:Tr)(s:Int),ls=[.d (.str (trS t)),.d (.int s)]/\TrOk t/\2*t.dep<n/\(t.dep:Int)<=s/\s<=100/\t.nodes<=1000/\af (.d (trD t)) ls
theorem no_tree_in(ls:List L)(af:L->List L->Prop):¬fsr_tree_in 0 ls af:=by rintro⟨t,s,_,_,h,_⟩;exact absurd h (Nat.not_lt_zero _)
end My
set_option exponentiation.threshold 1000
namespace Hd
open PySem PySem.W PyProof.Rows
noncomputable abbrev pr:Program:=PySem.Challenge.pw_ringloads_k78_trees_written
noncomputable def top(i:Nat):Stmt:=pr.main.body.getD i (.Pass ⟨0,0,0,0⟩)
noncomputable def inCls(st:Stmt)(j:Nat):Stmt:=match st with
 |.ClassDef _ _ _ b ..=>b.getD j (.Pass ⟨0,0,0,0⟩)
 |_=>.Pass ⟨0,0,0,0⟩
noncomputable def dName(s:Stmt):Str:=match s with
 |.FunctionDef n ..=>n
 |_=>""
noncomputable def dArgs(s:Stmt):Arguments:=match s with
 |.FunctionDef _ a _ _ _ _ _ _ _ _=>a
 |_=>{posonlyargs:=[],args:=[],vararg:=none,kwonlyargs:=[],kw_defaults:=[],kwarg:=none,defaults:=[] }
noncomputable def dBody(s:Stmt):List Stmt:=match s with
 |.FunctionDef _ _ b _ _ _ _ _ _ _=>b
 |_=>[]
noncomputable def dScope(s:Stmt):Scope:=match s with
 |.FunctionDef _ _ _ _ _ _ sc _ _ _=>sc
 |_=>{kind:=.function,names:=[],isGenerator:=false,isCoroutine:=false}
noncomputable def dPos(s:Stmt):Pos:=match s with
 |.FunctionDef _ _ _ _ _ _ _ _ _ p=>p
 |_=>⟨0,0,0,0⟩
noncomputable def fdOf (st:Stmt) (q:Str) (g:Addr) (md cd:Value):FuncData:={ name:=dName st,qualname:=q,params:=dArgs st,body:=.stmts (dBody st),scope:=dScope st,globals:=g,closure:=[],defaults:=.none,kwdefaults:=.none,doc:=.none,pyModule:=md,annotations:=none,code:=cd,closureTuple:=.none,builtins:=0 }
noncomputable def kh(P:Params)(x:Str):Int:=PySem.PyData.keyHash P x
noncomputable def tupO(vs:List Value):Obj:=⟨.type "tuple",none,.seq vs.toArray 0,#[]⟩
noncomputable def fldO(vs:List Value):Obj:=⟨.none,none,.fields vs.toArray,#[]⟩
noncomputable def numb:Nat->List Str->List Value
 |_,[]=>[]
 |t,x::r=>.str x t::numb (t+1) r
noncomputable def codeO(st:Stmt)(a t:Nat)(v1 v2:Value)(tm u:Nat):Obj:=⟨.type "code",none,.fields #[.str (dName st) t,.str (dName st) (t+1),.str "/claim/cut.py" (t+2),.int (dPos st).line 0,.int (dArgs st).args.length 0,.int 0 0,.int 0 0,.int 3 0,.ref a,.bool true,.int 181 0,.ref (a+1),.none,v1,v2,.ref tm,.int u 0,.int (dPos st).line 0,.str "/claim/cut.py" (u+1)],#[]⟩
noncomputable def fnO(st:Stmt)(md:Value)(cd:Nat):Obj:=⟨.type "function",none,.func (fdOf st (dName st) 3 md (.ref cd)),#[]⟩
noncomputable def tmO(st:Stmt):Obj:=⟨.none,none,.func (fdOf st (dName st) 0 .none .none),#[]⟩
noncomputable def fdef7(st:Stmt)(a t:Nat)(vs:List Str)(md:Value):List Obj:=[tupO [],fldO [],tupO (numb (t+3) vs),tupO [],tmO st,codeO st a t (.ref (a+2)) (.ref (a+3)) (a+4) (t+3+vs.length),fnO st md (a+5)]
noncomputable def fdef5(st:Stmt)(a t:Nat)(md:Value):List Obj:=[tupO [],fldO [],tmO st,codeO st a t .none .none (a+2) (t+3),fnO st md (a+3)]
noncomputable def mainD (P:Params) (nm:Value) (es:List DictEntry) (n:Nat):Obj:=⟨.type "dict",none,.dict (([⟨kh P "__name__",.str "__name__" 165,nm⟩,⟨kh P "__doc__",.str "__doc__" 166,.none⟩,⟨kh P "__package__",.str "__package__" 167,.none⟩,⟨kh P "__loader__",.str "__loader__" 168,.builtin "__main__.__loader__#opaque"⟩,⟨kh P "__spec__",.str "__spec__" 169,.none⟩,⟨kh P "__annotations__",.str "__annotations__" 170,.ref 6⟩,⟨kh P "__builtins__",.str "__builtins__" 171,.ref 4⟩,⟨kh P "__file__",.str "__file__" 173,.str "/claim/cut.py" 172⟩,⟨kh P "__cached__",.str "__cached__" 174,.none⟩]:List DictEntry)++es).toArray n,#[]⟩
noncomputable def modO:Obj:=⟨.type "code",none,.fields #[.str "<module>" 182,.str "<module>" 183,.str "/claim/cut.py" 184,.int 1 0,.int 0 0,.int 0 0,.int 0 0,.int 0 0,.ref 11,.bool false,.int 181 0,.ref 12,.none,.none,.none,.none,.int 185 0,.int 1 0,.str "/claim/cut.py" 186],#[]⟩
noncomputable def frmO:Obj:=⟨.type "frame",none,.plain,#[some (.ref 13),some (.ref 3),some (.ref 3),none,some (.str "__main__" 164),none,some (.ref 0)]⟩
noncomputable def bootL(P:Params):List Obj:=[boot_o_0 P,boot_o_1 P,boot_o_2 P,boot_o_3 P,boot_o_4 P,boot_o_5 P,boot_o_6 P,boot_o_7 P,boot_o_8 P,boot_o_9 P,boot_o_10 P,tupO [],fldO [],modO,frmO]
noncomputable def life0:Life:=⟨[],[],[],0,[],[],false,#[],[],0,false,false,false,0,[2000,10,10],false,0,true,[],[],0,false⟩
noncomputable def lookO(l:List (Nat×Obj))(b:Nat):Option Obj:=@List.rec (Nat×Obj) (λ_=>Option Obj) none (λx _ ih=>bif Nat.beq x.1 b then some x.2 else ih) l
noncomputable def obBase(P:Params)(ob:Params->Nat->Obj)(b:Nat):Obj:=bif b.blt 15 then(bootL P).getD b default else ob P b
noncomputable def memN(l:List Nat)(b:Nat):Bool:=@List.rec Nat (λ_=>Bool) false (λx _ ih=>@Bool.rec (λ_=>Bool) ih true (Nat.beq x b)) l
noncomputable def obAt(ks:List Nat)(P:Params)(ov:List (Nat×Obj))(ob:Params->Nat->Obj)(b j:Nat):Obj:=@Bool.rec (λ_=>Obj) (obBase P ob b) ((lookO ov b).getD default) (memN ks b)
noncomputable def L0(n:Nat)(f:Nat->Obj)(a b j:Nat):BT:=.nil
noncomputable def L1(n:Nat)(f:Nat->Obj)(a b j:Nat):BT:=@Bool.rec (λ_=>BT) .nil (.node (f b) (L0 n f (2*a) (a+b) j) (L0 n f (2*a) (2*a+b) j)) (b.blt n)
noncomputable def L2(n:Nat)(f:Nat->Obj)(a b j:Nat):BT:=@Bool.rec (λ_=>BT) .nil (.node (f b) (L1 n f (2*a) (a+b) j) (L1 n f (2*a) (2*a+b) j)) (b.blt n)
noncomputable def L3(n:Nat)(f:Nat->Obj)(a b j:Nat):BT:=@Bool.rec (λ_=>BT) .nil (.node (f b) (L2 n f (2*a) (a+b) j) (L2 n f (2*a) (2*a+b) j)) (b.blt n)
noncomputable def L4(n:Nat)(f:Nat->Obj)(a b j:Nat):BT:=@Bool.rec (λ_=>BT) .nil (.node (f b) (L3 n f (2*a) (a+b) j) (L3 n f (2*a) (2*a+b) j)) (b.blt n)
noncomputable def L5(n:Nat)(f:Nat->Obj)(a b j:Nat):BT:=@Bool.rec (λ_=>BT) .nil (.node (f b) (L4 n f (2*a) (a+b) j) (L4 n f (2*a) (2*a+b) j)) (b.blt n)
noncomputable def L6(n:Nat)(f:Nat->Obj)(a b j:Nat):BT:=@Bool.rec (λ_=>BT) .nil (.node (f b) (L5 n f (2*a) (a+b) j) (L5 n f (2*a) (2*a+b) j)) (b.blt n)
noncomputable def L7(n:Nat)(f:Nat->Obj)(a b j:Nat):BT:=@Bool.rec (λ_=>BT) .nil (.node (f b) (L6 n f (2*a) (a+b) j) (L6 n f (2*a) (2*a+b) j)) (b.blt n)
noncomputable def L8(n:Nat)(f:Nat->Obj)(a b j:Nat):BT:=@Bool.rec (λ_=>BT) .nil (.node (f b) (L7 n f (2*a) (a+b) j) (L7 n f (2*a) (2*a+b) j)) (b.blt n)
noncomputable def L9(n:Nat)(f:Nat->Obj)(a b j:Nat):BT:=@Bool.rec (λ_=>BT) .nil (.node (f b) (L8 n f (2*a) (a+b) j) (L8 n f (2*a) (2*a+b) j)) (b.blt n)
noncomputable def L10(n:Nat)(f:Nat->Obj)(a b j:Nat):BT:=@Bool.rec (λ_=>BT) .nil (.node (f b) (L9 n f (2*a) (a+b) j) (L9 n f (2*a) (2*a+b) j)) (b.blt n)
noncomputable def L11(n:Nat)(f:Nat->Obj)(a b j:Nat):BT:=@Bool.rec (λ_=>BT) .nil (.node (f b) (L10 n f (2*a) (a+b) j) (L10 n f (2*a) (2*a+b) j)) (b.blt n)
noncomputable def L12(n:Nat)(f:Nat->Obj)(a b j:Nat):BT:=@Bool.rec (λ_=>BT) .nil (.node (f b) (L11 n f (2*a) (a+b) j) (L11 n f (2*a) (2*a+b) j)) (b.blt n)
theorem seg_by{p:Program}{w:World}{m:Nat}{ann:Option Value}{b n:Nat}{s:SharedT}{t:Thread}{r:Option (Flow×SharedT×Code×Pos)}(h:Fast.tw10110043849684766642 Fast.tw14364793385576792824 p w m ann b n s t=r):segRunT treeTable p w m ann b n s t=r:=by rw[Fast.te10110043849684766642,bJ];exact h
theorem top_by{p:Program}{w:World}{m:Nat}{ann:Option Value}{n:Nat}{s:Shared}{t:Thread}{r:Option Shared}(h:Fast.tw14082659384304107361 Fast.tw14364793385576792824 p w m ann n s t=r):topRun treeTable p w m ann n s t=r:=by rw[Fast.te14082659384304107361,bJ];exact h
theorem den_tw:denote treeTable=Fast.tw11892475500146522536 Fast.tw14364793385576792824:=by rw[<- Fast.te11892475500146522536,<- bJ]
theorem go_by{p:Program}{w:World}{m:Nat}{ann:Option Value}{n:Nat}{s:Shared}{t:Thread}{r:Option (Shared×Thread)}(h:Fast.tw15667345088766844465 Fast.tw14364793385576792824 p w m ann n s t=r):topGo treeTable p w m ann n s t=r:=by rw[Fast.te15667345088766844465,bJ];exact h
theorem rest_eq{b b':List Stmt}(e:b=b'){tb:String->Option Builtin}{p:Program}{w:World}{m:Nat}{ann:Option Value}{n:Nat}{s:Shared}{env:Env}{c:Code}{ps:Pos}{B:List Frame}{r:Option Shared}(h:topRun tb p w m ann n s (restOf b' env c ps B)=r):topRun tb p w m ann n s (restOf b env c ps B)=r:=by rw[e];exact h
noncomputable def f1(P:Params):List Obj:=[(Obj.mk (.type "tuple") none (.seq #[(.type "ValueError")] 0) #[]),
 (Obj.mk (.type "builtin_function_or_method") none (.fields #[(.builtin "type.__prepare__"),(.type "type")]) #[]),
 (Obj.mk (.type "dict") none (.dict #[(DictEntry.mk (kh P "__module__") (.str "__module__" 196) (.str "ringloads.errors" 187)),(DictEntry.mk (kh P "__qualname__") (.str "__qualname__" 198) (.str "LoadError" 197)),(DictEntry.mk (kh P "__firstlineno__") (.str "__firstlineno__" 200) (.int 2 199)),(DictEntry.mk (kh P "__init__") (.str "__init__" 208) (.ref 28)),(DictEntry.mk (kh P "__static_attributes__") (.str "__static_attributes__" 209) (.ref 29))] 5) #[]),
 (Obj.mk (.type "tuple") none (.seq #[] 0) #[]),
 (Obj.mk .none none (.fields #[(.int 4 0),(.int 4 0),(.ref 27)]) #[]),
 (Obj.mk (.type "code") none (.fields #[(.str "LoadError" 191),(.str "LoadError" 192),(.str "/claim/cut.py" 193),(.int 2 0),(.int 0 0),(.int 0 0),(.int 0 0),(.int 0 0),(.ref 18),(.bool false),(.int 181 0),(.ref 19),.none,.none,.none,.none,(.int 194 0),(.int 2 0),(.str "/claim/cut.py" 195)]) #[]),
 (Obj.mk (.type "frame") none .plain #[(some (.ref 20)),(some (.ref 3)),(some (.ref 17)),none,(some (.str "ringloads.errors" 187)),none,(some (.ref 0))]),
 (Obj.mk (.type "tuple") none (.seq #[] 0) #[]),
 (Obj.mk .none none (.fields #[]) #[]),
 (Obj.mk (.type "tuple") none (.seq #[(.str "self" 204),(.str "text" 205)] 0) #[]),
 (Obj.mk (.type "tuple") none (.seq #[] 0) #[]),
 (Obj.mk .none none (.func (fdOf (inCls (top 1) 0) "LoadError.__init__" 0 .none .none)) #[]),
 (Obj.mk (.type "code") none (.fields #[(.str "__init__" 201),(.str "LoadError.__init__" 202),(.str "/claim/cut.py" 203),(.int 4 0),(.int 2 0),(.int 0 0),(.int 0 0),(.int 3 0),(.ref 22),(.bool true),(.int 181 0),(.ref 23),.none,(.ref 24),(.ref 25),(.ref 26),(.int 206 0),(.int 4 0),(.str "/claim/cut.py" 207)]) #[]),
 (Obj.mk (.type "function") none (.func (fdOf (inCls (top 1) 0) "LoadError.__init__" 3 (.str "ringloads.errors" 187) (.ref 27))) #[]),
 (Obj.mk (.type "tuple") none (.seq #[] 0) #[]),
 (Obj.mk (.type "dict") none (.dict #[(DictEntry.mk (kh P "__module__") (.str "__module__" 196) (.str "ringloads.errors" 187)),(DictEntry.mk (kh P "__firstlineno__") (.str "__firstlineno__" 200) (.int 2 199)),(DictEntry.mk (kh P "__init__") (.str "__init__" 208) (.ref 28)),(DictEntry.mk (kh P "__static_attributes__") (.str "__static_attributes__" 209) (.ref 29)),(DictEntry.mk (kh P "__weakref__") (.str "__weakref__" 211) (.ref 32)),(DictEntry.mk (kh P "__doc__") (.str "__doc__" 212) .none)] 3) #[]),
 (Obj.mk (.type "type") none (.cls (PySem.ClassData.mk "LoadError" [(.type "ValueError")] [(.ref 31),(.type "ValueError"),(.type "Exception"),(.type "BaseException"),(.type "object")] 30 "LoadError" true [] [(.ref 51)] false none false)) #[(some (.ref 15)),none,(some (.str "LoadError" 189)),(some (.str "LoadError" 197)),(some (.builtin "ValueError.__new__")),(some (.bool true))]),
 (Obj.mk (.type "getset_descriptor") none (.fields #[(.str "__weakref__" 210),(.ref 31),(.builtin "ExceptionGroup.__weakref__"),.none]) #[]),
 (Obj.mk (.type "super") none (.fields #[(.ref 31),(.ref 31),(.ref 31)]) #[]),
 (Obj.mk (.type "builtin_function_or_method") none (.fields #[(.builtin "object.__init_subclass__"),(.ref 31)]) #[])]
noncomputable def f2(P:Params):List Obj:=[(Obj.mk (.type "tuple") none (.seq #[(.ref 31)] 0) #[]),
 (Obj.mk (.type "builtin_function_or_method") none (.fields #[(.builtin "type.__prepare__"),(.type "type")]) #[]),
 (Obj.mk (.type "dict") none (.dict #[(DictEntry.mk (kh P "__module__") (.str "__module__" 222) (.str "ringloads.errors" 187)),(DictEntry.mk (kh P "__qualname__") (.str "__qualname__" 224) (.str "NoText" 223)),(DictEntry.mk (kh P "__firstlineno__") (.str "__firstlineno__" 226) (.int 6 225)),(DictEntry.mk (kh P "__init__") (.str "__init__" 234) (.ref 48)),(DictEntry.mk (kh P "__static_attributes__") (.str "__static_attributes__" 236) (.ref 49))] 5) #[]),
 (Obj.mk (.type "tuple") none (.seq #[] 0) #[]),
 (Obj.mk .none none (.fields #[(.int 8 0),(.int 4 0),(.ref 47)]) #[]),
 (Obj.mk (.type "code") none (.fields #[(.str "NoText" 217),(.str "NoText" 218),(.str "/claim/cut.py" 219),(.int 6 0),(.int 0 0),(.int 0 0),(.int 0 0),(.int 0 0),(.ref 38),(.bool false),(.int 181 0),(.ref 39),.none,.none,.none,.none,(.int 220 0),(.int 6 0),(.str "/claim/cut.py" 221)]) #[]),
 (Obj.mk (.type "frame") none .plain #[(some (.ref 40)),(some (.ref 3)),(some (.ref 37)),none,(some (.str "ringloads.errors" 187)),none,(some (.ref 0))]),
 (Obj.mk (.type "tuple") none (.seq #[] 0) #[]),
 (Obj.mk .none none (.fields #[]) #[]),
 (Obj.mk (.type "tuple") none (.seq #[(.str "self" 230),(.str "row" 231)] 0) #[]),
 (Obj.mk (.type "tuple") none (.seq #[] 0) #[]),
 (Obj.mk .none none (.func (fdOf (inCls (top 2) 0) "NoText.__init__" 0 .none .none)) #[]),
 (Obj.mk (.type "code") none (.fields #[(.str "__init__" 227),(.str "NoText.__init__" 228),(.str "/claim/cut.py" 229),(.int 8 0),(.int 2 0),(.int 0 0),(.int 0 0),(.int 3 0),(.ref 42),(.bool true),(.int 181 0),(.ref 43),.none,(.ref 44),(.ref 45),(.ref 46),(.int 232 0),(.int 8 0),(.str "/claim/cut.py" 233)]) #[]),
 (Obj.mk (.type "function") none (.func (fdOf (inCls (top 2) 0) "NoText.__init__" 3 (.str "ringloads.errors" 187) (.ref 47))) #[]),
 (Obj.mk (.type "tuple") none (.seq #[(.str "row" 235)] 0) #[]),
 (Obj.mk (.type "dict") none (.dict #[(DictEntry.mk (kh P "__module__") (.str "__module__" 222) (.str "ringloads.errors" 187)),(DictEntry.mk (kh P "__firstlineno__") (.str "__firstlineno__" 226) (.int 6 225)),(DictEntry.mk (kh P "__init__") (.str "__init__" 234) (.ref 48)),(DictEntry.mk (kh P "__static_attributes__") (.str "__static_attributes__" 236) (.ref 49)),(DictEntry.mk (kh P "__doc__") (.str "__doc__" 237) .none)] 2) #[]),
 (Obj.mk (.type "type") none (.cls (PySem.ClassData.mk "NoText" [(.ref 31)] [(.ref 51),(.ref 31),(.type "ValueError"),(.type "Exception"),(.type "BaseException"),(.type "object")] 50 "NoText" true [] [] false none false)) #[(some (.ref 35)),none,(some (.str "NoText" 215)),(some (.str "NoText" 223)),(some (.builtin "ValueError.__new__")),(some (.bool true))]),
 (Obj.mk (.type "super") none (.fields #[(.ref 51),(.ref 51),(.ref 51)]) #[]),
 (Obj.mk (.type "builtin_function_or_method") none (.fields #[(.builtin "object.__init_subclass__"),(.ref 51)]) #[])]
noncomputable def f4(P:Params):List Obj:=fdef7 (top 4) 54 242 ["thing"] (.str "ringloads.names" 240)
noncomputable def f5(P:Params):List Obj:=fdef7 (top 5) 61 249 ["thing","many"] (.str "ringloads.names" 240)
noncomputable def f10(P:Params):List Obj:=fdef5 (top 10) 68 265 (.str "ringloads.ringtexts" 261)
noncomputable def f17(P:Params):List Obj:=fdef5 (top 17) 73 283 (.str "ringloads.papertexts" 277)
noncomputable def f18(P:Params):List Obj:=fdef7 (top 18) 78 289 ["text","found"] (.str "ringloads.papertexts" 277)
noncomputable def f19(P:Params):List Obj:=fdef7 (top 19) 85 297 ["text","splits","words"] (.str "ringloads.papertexts" 277)
noncomputable def f20(P:Params):List Obj:=fdef5 (top 20) 92 306 (.str "ringloads.papertexts" 277)
noncomputable def f21(P:Params):List Obj:=fdef7 (top 21) 97 312 ["text","splits","parts","k","trees","bar","on","back"] (.str "ringloads.papertexts" 277)
noncomputable def f22(P:Params):List Obj:=fdef7 (top 22) 104 326 ["text","within","start","sign"] (.str "ringloads.papertexts" 277)
noncomputable def f24(P:Params):List Obj:=fdef7 (top 24) 111 338 ["_law_script","_law_k","_law_cell"] (.str "law_ringloads_k78_trees_written" 336)
noncomputable def f25(P:Params):List Obj:=fdef7 (top 25) 118 347 ["_law_state","_law_many","_law_digit","_law_drawn","_law_turn"] (.str "law_ringloads_k78_trees_written" 336)
noncomputable def f26(P:Params):List Obj:=fdef7 (top 26) 125 358 ["_law_state"] (.str "law_ringloads_k78_trees_written" 336)
noncomputable def f27(P:Params):List Obj:=fdef7 (top 27) 132 365 ["_law_script","_law_most","_law_trees","_law_deeps","_law_k","_law_state","_law_way"] (.str "law_ringloads_k78_trees_written" 336)
noncomputable def f28(P:Params):List Obj:=fdef7 (top 28) 139 378 ["_law_tree_here","_law_both"] (.str "law_ringloads_k78_trees_written" 336)
noncomputable def f29(P:Params):List Obj:=fdef5 (top 29) 146 386 (.str "law_ringloads_k78_trees_written" 336)
noncomputable def f30(P:Params):List Obj:=fdef7 (top 30) 151 392 ["_law_tree_here","_law_text"] (.str "law_ringloads_k78_trees_written" 336)
noncomputable def f31(P:Params):List Obj:=fdef7 (top 31) 158 400 ["_law_script","_law_tree_here","_law_deep","_law_k","_law_wide"] (.str "law_ringloads_k78_trees_written" 336)
noncomputable def obl(P:Params)(b:Nat):Obj:=(bif b.blt 68 then(bif b.blt 54 then(bif b.blt 35 then(f1 P).getD (b-15) default else(f2 P).getD (b-35) default)else(bif b.blt 61 then(f4 P).getD (b-54) default else(f5 P).getD (b-61) default))else(bif b.blt 78 then(bif b.blt 73 then(f10 P).getD (b-68) default else(f17 P).getD (b-73) default)else(bif b.blt 85 then(f18 P).getD (b-78) default else(bif b.blt 92 then(f19 P).getD (b-85) default else(f20 P).getD (b-92) default))))
noncomputable def obr(P:Params)(b:Nat):Obj:=(bif b.blt 132 then(bif b.blt 111 then(bif b.blt 104 then(f21 P).getD (b-97) default else(f22 P).getD (b-104) default)else(bif b.blt 118 then(f24 P).getD (b-111) default else(bif b.blt 125 then(f25 P).getD (b-118) default else(f26 P).getD (b-125) default)))else(bif b.blt 146 then(bif b.blt 139 then(f27 P).getD (b-132) default else(f28 P).getD (b-139) default)else(bif b.blt 151 then(f29 P).getD (b-146) default else(bif b.blt 158 then(f30 P).getD (b-151) default else(f31 P).getD (b-158) default))))
noncomputable def ob(P:Params)(b:Nat):Obj:=bif b.blt 97 then obl P b else obr P b
noncomputable def ents(P:Params):List DictEntry:=[(DictEntry.mk (kh P "LoadError") (.str "LoadError" 214) (.ref 31)),
 (DictEntry.mk (kh P "NoText") (.str "NoText" 239) (.ref 51)),
 (DictEntry.mk (kh P "is_whole") (.str "is_whole" 248) (.ref 60)),
 (DictEntry.mk (kh P "is_number_below") (.str "is_number_below" 256) (.ref 67)),
 (DictEntry.mk (kh P "MOST_TIES") (.str "MOST_TIES" 258) (.int 12 257)),
 (DictEntry.mk (kh P "MOST_ASKS") (.str "MOST_ASKS" 260) (.int 20 259)),
 (DictEntry.mk (kh P "MOST_FIGURES") (.str "MOST_FIGURES" 264) (.int 60 263)),
 (DictEntry.mk (kh P "whole_in") (.str "whole_in" 270) (.ref 72)),
 (DictEntry.mk (kh P "CUT") (.str "CUT" 272) (.str "cut" 271)),
 (DictEntry.mk (kh P "TURNED") (.str "TURNED" 274) (.str "turned" 273)),
 (DictEntry.mk (kh P "SPLIT") (.str "SPLIT" 276) (.str "split" 275)),
 (DictEntry.mk (kh P "BAR") (.str "BAR" 280) (.str " | " 279)),
 (DictEntry.mk (kh P "MOST_SPLITS") (.str "MOST_SPLITS" 282) (.int 20 281)),
 (DictEntry.mk (kh P "shown_tree") (.str "shown_tree" 288) (.ref 77)),
 (DictEntry.mk (kh P "read_tree") (.str "read_tree" 296) (.ref 84)),
 (DictEntry.mk (kh P "tree_in") (.str "tree_in" 305) (.ref 91)),
 (DictEntry.mk (kh P "cut_in") (.str "cut_in" 311) (.ref 96)),
 (DictEntry.mk (kh P "split_in") (.str "split_in" 325) (.ref 103)),
 (DictEntry.mk (kh P "bar_in") (.str "bar_in" 335) (.ref 110)),
 (DictEntry.mk (kh P "_law_begun") (.str "_law_begun" 346) (.ref 117)),
 (DictEntry.mk (kh P "_law_take") (.str "_law_take" 357) (.ref 124)),
 (DictEntry.mk (kh P "_law_leaf") (.str "_law_leaf" 364) (.ref 131)),
 (DictEntry.mk (kh P "_law_tree") (.str "_law_tree" 377) (.ref 138)),
 (DictEntry.mk (kh P "_law_written") (.str "_law_written" 385) (.ref 145)),
 (DictEntry.mk (kh P "_law_same") (.str "_law_same" 391) (.ref 150)),
 (DictEntry.mk (kh P "_law_right") (.str "_law_right" 399) (.ref 157)),
 (DictEntry.mk (kh P "law") (.str "law" 410) (.ref 164))]
noncomputable def plc:List Value:=[(.int 2 0),(.int 0 0),(.ref 20),(.int 6 0),(.int 0 0),(.ref 40),(.int 12 0),(.int 0 0),(.ref 59),(.int 14 0),(.int 0 0),(.ref 66),(.int 20 0),(.int 0 0),(.ref 71),(.int 32 0),(.int 0 0),(.ref 76),(.int 39 0),(.int 0 0),(.ref 83),(.int 44 0),(.int 0 0),(.ref 90),(.int 53 0),(.int 0 0),(.ref 95),(.int 58 0),(.int 0 0),(.ref 102),(.int 68 0),(.int 0 0),(.ref 109),(.int 79 0),(.int 0 0),(.ref 116),(.int 84 0),(.int 0 0),(.ref 123),(.int 95 0),(.int 0 0),(.ref 130),(.int 99 0),(.int 0 0),(.ref 137),(.int 119 0),(.int 0 0),(.ref 144),(.int 126 0),(.int 0 0),(.ref 149),(.int 132 0),(.int 0 0),(.ref 156),(.int 135 0),(.int 0 0),(.ref 163)]
noncomputable def ov0(P:Params):List (Nat×Obj):=[(12,fldO (plc.take 0))]
noncomputable def T0(P:Params):BT:=L12 15 (λb=>obAt [12] P (ov0 P) ob b 0) 1 0 0
noncomputable abbrev S0(w:World)(os:OsState):SharedT:=⟨T0 w.params,15,life0,#[],⟨0,0,0,0⟩,187,os⟩
noncomputable def ov1(P:Params):List (Nat×Obj):=[(3,mainD P (.str "ringloads.errors" 187) ((ents P).take 1) 10),(12,fldO (plc.take 3)),(31,(Obj.mk (.type "type") none (.cls (PySem.ClassData.mk "LoadError" [(.type "ValueError")] [(.ref 31),(.type "ValueError"),(.type "Exception"),(.type "BaseException"),(.type "object")] 30 "LoadError" true [] [] false none false)) #[(some (.ref 15)),none,(some (.str "LoadError" 189)),(some (.str "LoadError" 197)),(some (.builtin "ValueError.__new__")),(some (.bool true))]))]
noncomputable def T1(P:Params):BT:=L12 35 (λb=>obAt [3,12,31] P (ov1 P) ob b 1) 1 0 1
noncomputable abbrev S1(w:World)(os:OsState):SharedT:=⟨T1 w.params,35,life0,#[],⟨0,0,0,0⟩,215,os⟩
noncomputable def ov2(P:Params):List (Nat×Obj):=[(3,mainD P (.str "ringloads.ringtexts" 261) ((ents P).take 10) 19),(12,fldO (plc.take 15))]
noncomputable def T2(P:Params):BT:=L12 73 (λb=>obAt [3,12] P (ov2 P) ob b 2) 1 0 2
noncomputable abbrev S2(w:World)(os:OsState):SharedT:=⟨T2 w.params,73,life0,#[],⟨0,0,0,0⟩,275,os⟩
noncomputable def ov3(P:Params):List (Nat×Obj):=[(3,mainD P (.str "law_ringloads_k78_trees_written" 336) ((ents P).take 24) 33),(12,fldO (plc.take 48))]
noncomputable def T3(P:Params):BT:=L12 146 (λb=>obAt [3,12] P (ov3 P) ob b 3) 1 0 3
noncomputable abbrev S3(w:World)(os:OsState):SharedT:=⟨T3 w.params,146,life0,#[],⟨0,0,0,0⟩,386,os⟩
noncomputable def ov4(P:Params):List (Nat×Obj):=[(3,mainD P (.str "law_ringloads_k78_trees_written" 336) ((ents P).take 27) 36),(12,fldO (plc.take 57))]
noncomputable def T4(P:Params):BT:=L12 165 (λb=>obAt [3,12] P (ov4 P) ob b 4) 1 0 4
noncomputable abbrev S4(w:World)(os:OsState):SharedT:=⟨T4 w.params,165,life0,#[],⟨0,0,0,0⟩,411,os⟩
noncomputable abbrev env:Env:={scope:=pr.main.scope,locals:=mainNs,globals:=mainNs,cells:=[],code:=.ref 13,frame:=some 14}
noncomputable abbrev cE:Code:=.body (behindTheImports pr) env
noncomputable abbrev B:List Frame:=[topFrame ⟨0,0,0,0⟩]
noncomputable def sts1:List Stmt:=(pr.main.body.drop 0).take 2
theorem pc1(w:World)(os:OsState):segRunT treeTable pr w 11 (some (.ref 6)) 1 227 (S0 w os) (piecesOf sts1 env cE ⟨0,0,0,0⟩ B)=some (.next,S1 w os,cE,⟨2,0,5,39⟩):=seg_by za
noncomputable def sts2:List Stmt:=(pr.main.body.drop 2).take 11
theorem pc2(w:World)(os:OsState):segRunT treeTable pr w 11 (some (.ref 6)) 1 394 (S1 w os) (piecesOf sts2 env cE ⟨2,0,5,39⟩ B)=some (.next,S2 w os,cE,⟨27,0,27,6⟩):=seg_by za
noncomputable def sts3:List Stmt:=(pr.main.body.drop 13).take 16
theorem pc3(w:World)(os:OsState):segRunT treeTable pr w 11 (some (.ref 6)) 1 385 (S2 w os) (piecesOf sts3 env cE ⟨27,0,27,6⟩ B)=some (.next,S3 w os,cE,⟨119,0,125,69⟩):=seg_by za
noncomputable def sts4:List Stmt:=(pr.main.body.drop 29).take 3
theorem pc4(w:World)(os:OsState):segRunT treeTable pr w 11 (some (.ref 6)) 1 90 (S3 w os) (piecesOf sts4 env cE ⟨119,0,125,69⟩ B)=some (.next,S4 w os,cE,⟨135,0,149,89⟩):=seg_by za
noncomputable abbrev H1(P:Params):Heap:=absHeap (T4 P) 165 life0
theorem pre(w:World)(os:OsState):topGo treeTable pr w 11 (some (.ref 6)) 12 ⟨boot_heap w.params,#[],boot_drawn,boot_toks,os⟩ (topStub pr)=some (⟨⟨⟨bootL w.params⟩,life0⟩,#[],⟨0,0,0,0⟩,187,os⟩,⟨denote treeTable cE,cE,⟨0,0,0,0⟩,B⟩):=by rw[den_tw];exact go_by za
theorem block(w:World)(os:OsState):segRun treeTable pr w 11 (some (.ref 6)) 1 1 ⟨⟨⟨bootL w.params⟩,life0⟩,#[],⟨0,0,0,0⟩,187,os⟩ (blockOf (behindTheImports pr) env cE ⟨0,0,0,0⟩ B)=some (.next,(S0 w os).abs,cE,⟨0,0,0,0⟩):=by kernel_rfl
theorem fin(w:World)(os:OsState):topRun treeTable pr w 11 (some (.ref 6)) 2 (S4 w os).abs ⟨doneF .next,cE,⟨135,0,149,89⟩,B⟩=some ⟨H1 w.params,#[],⟨0,0,0,0⟩,411,os⟩:=top_by za
theorem body_eq:behindTheImports pr=(sts1++(sts2++(sts3++(sts4++[])))):=by kernel_rfl
theorem run(w:World)(os:OsState):topRun treeTable pr w 11 (some (.ref 6)) (12+(1+(227+(394+(385+(90+2)))))) ⟨boot_heap w.params,#[],boot_drawn,boot_toks,os⟩ (topStub pr)=some ⟨H1 w.params,#[],⟨0,0,0,0⟩,411,os⟩ :=
 go_top (pre w os) (piece_block (block w os) (rest_eq body_eq (piece_app (segRun_of (pc1 w os)) (piece_app (segRun_of (pc2 w os)) (piece_app (segRun_of (pc3 w os)) (piece_app (segRun_of (pc4 w os)) (piece_nil (fin w os))))))))
noncomputable abbrev q:Program:=view pr [31]
noncomputable def loose:List Str:=(["LoadError","NoText","is_whole","is_number_below","MOST_TIES","MOST_ASKS","MOST_FIGURES","whole_in","CUT","TURNED","SPLIT","BAR","MOST_SPLITS","shown_tree","read_tree","tree_in","cut_in","split_in","bar_in","_law_begun","_law_take","_law_leaf","_law_tree","_law_written","_law_same","_law_right"]:List String).map Str.ofString
noncomputable def Kf(P:Params):Frag:=(3,((ov4 P).getD 0 (0,default)).2)::[(15,(f1 P).getD 0 default),(16,(f1 P).getD 1 default),(17,(f1 P).getD 2 default),(18,(f1 P).getD 3 default),(19,(f1 P).getD 4 default),(20,(f1 P).getD 5 default),(21,(f1 P).getD 6 default),(22,(f1 P).getD 7 default),(23,(f1 P).getD 8 default),(24,(f1 P).getD 9 default),(25,(f1 P).getD 10 default),(26,(f1 P).getD 11 default),(27,(f1 P).getD 12 default),(28,(f1 P).getD 13 default),(29,(f1 P).getD 14 default),(30,(f1 P).getD 15 default),(31,(f1 P).getD 16 default),(32,(f1 P).getD 17 default),(33,(f1 P).getD 18 default),(34,(f1 P).getD 19 default),(35,(f2 P).getD 0 default),(36,(f2 P).getD 1 default),(37,(f2 P).getD 2 default),(38,(f2 P).getD 3 default),(39,(f2 P).getD 4 default),(40,(f2 P).getD 5 default),(41,(f2 P).getD 6 default),(42,(f2 P).getD 7 default),(43,(f2 P).getD 8 default),(44,(f2 P).getD 9 default),(45,(f2 P).getD 10 default),(46,(f2 P).getD 11 default),(47,(f2 P).getD 12 default),(48,(f2 P).getD 13 default),(49,(f2 P).getD 14 default),(50,(f2 P).getD 15 default),(51,(f2 P).getD 16 default),(52,(f2 P).getD 17 default),(53,(f2 P).getD 18 default),(59,(f4 P).getD 5 default),(60,(f4 P).getD 6 default),(66,(f5 P).getD 5 default),(67,(f5 P).getD 6 default),(71,(f10 P).getD 3 default),(72,(f10 P).getD 4 default),(76,(f17 P).getD 3 default),(77,(f17 P).getD 4 default),(83,(f18 P).getD 5 default),(84,(f18 P).getD 6 default),(90,(f19 P).getD 5 default),(91,(f19 P).getD 6 default),(95,(f20 P).getD 3 default),(96,(f20 P).getD 4 default),(102,(f21 P).getD 5 default),(103,(f21 P).getD 6 default),(109,(f22 P).getD 5 default),(110,(f22 P).getD 6 default),(116,(f24 P).getD 5 default),(117,(f24 P).getD 6 default),(123,(f25 P).getD 5 default),(124,(f25 P).getD 6 default),(130,(f26 P).getD 5 default),(131,(f26 P).getD 6 default),(137,(f27 P).getD 5 default),(138,(f27 P).getD 6 default),(144,(f28 P).getD 5 default),(145,(f28 P).getD 6 default),(149,(f29 P).getD 3 default),(150,(f29 P).getD 4 default),(156,(f30 P).getD 5 default),(157,(f30 P).getD 6 default),(163,(f31 P).getD 5 default),(164,(f31 P).getD 6 default)]
noncomputable abbrev as:List Addr:=[3,15,16,17,18,19,20,21,22,23,24,25,26,27,28,29,30,31,32,33,34,35,36,37,38,39,40,41,42,43,44,45,46,47,48,49,50,51,52,53,59,60,66,67,71,72,76,77,83,84,90,91,95,96,102,103,109,110,116,117,123,124,130,131,137,138,144,145,149,150,156,157,163,164]
noncomputable abbrev Hk:Hook:=kHook Kf as (λ_=>by kernel_rfl)
noncomputable abbrev Xt:Shared→Bool:=fun s=>xlAt q [] s && recOk (RowW.records PySem.Challenge.rw_ringloads_k78_trees_written.row.toRowW) s
theorem size (w:World):((boot_heap w.params).isNs mainGlobals && (#[]:Array GenState).size == 0,(boot_heap w.params).objs.size,(boot_heap w.params).nsMap mainGlobals "__annotations__")=(true,11,some (.ref 6)):=by kernel_rfl
theorem look1(w:World)(os:OsState):(staticsOk (importedModules pr.main.body) (boot_heap w.params) (H1 w.params) && namesBound pr (H1 w.params) && gensDone ⟨H1 w.params,#[],⟨0,0,0,0⟩,411,os⟩ && laidKept (boot_heap w.params) (H1 w.params))=true:=by kernel_rfl
theorem look2(w:World)(os:OsState):openSeen q loose (importedModules pr.main.body) Xt true ⟨H1 w.params,#[],⟨0,0,0,0⟩,411,os⟩=openGood q loose:=by rw[Fast.te4187177175401517315];kernel_rfl
theorem look3(w:World)(os:OsState):Hk.obs ⟨H1 w.params,#[],⟨0,0,0,0⟩,411,os⟩=Hk.val w:=by kernel_rfl
theorem opened:opening pr=plainProg pr.main.scope.names:=by kernel_rfl
theorem left:LeftO pr q loose Xt Hk.obs Hk.val 2884:=LeftO.of_pieces (M:=(12+(1+(227+(394+(385+(90+2))))))) (boot_open opened zd (λs=>by kernel_rfl)) size run zb (λw=>funext λos=>looks_pair (look1 w os) (looks_pair (look2 w os) (look3 w os)))
end Hd
namespace My
open PySem L2
local macro_rules | `(tactic| walk_at "w")=>do
 let ids:=("wEnds wPtn ptnD wEnumS opStrU strK_s gfIs_of strAt_s wStarts wSplit wFmt wCat opIntT opStrI noLs noL takeW_bx takeW_d tupOf_bx noLr_dic flatL_dic wSrcS signsOf varW_d varW_own varW_bx movW_d movW_own movW_bx selW_own selW_d selW_bx pkW_own pkS_own trdW_lst pkW_bx pkW_d pkB_own pkB_bx pkB_d fzW_own fzW_d toDB_t toDB_o eraK_nil eraK_cons noLr_un noLr_d noLr_own noLr_bx noLrs_nil noLrs_cons flatL_bx opEqS wChainN wLinks opLe2 wSeq wIf wTest wBin wUn wVar wMove wC wSet wRet wDrop wNext wCall wCallB wCallD aVal aVar aNil toD toDs toInt isBl wTup wLst wNot wAnd wOr wAndV wOrV wNotV wIfE wFrz wIsOwn wIxV wSetV wLenV wApp wPeek noL noLs flatOwn flatL_un flatL_d flatL_own List.all_cons List.all_nil Bool.and_true Bool.true_and wPop ownV wFor wRng1 wSrc wJoin wChain itemsOf_lst itemsOf_tup itemsOf_fr tgName tgTup_tup tgTup_ask tgTup_fr tgNames opAdd opSub opMulI opDiv opMod opPow opLt opLe opGt opGe opEq opNe opNeg opIx_lst opIx_tup opIx_str ix_ring0 ix_ring1 ix_ask0 ix_ask1 ix_ask2 ix_ask3 ix_fr0 ix_fr1 ix_cut0 ix_cut1 ix_g0 ix_g1 noL_cut shape_cut eqD_cut eqD_fr shape_fr noL_fr noLs_frs noLs_cuts noLs_ints shape_on shape_back shape_way way_on way_back List.length_map rooms_len opLen_lst opLen_tup opLen_str opLen_fr opLen_ring opLen_ask isTy_tup_fr isTy_lst_fr isTy_int_fr isTy_bool_fr isTy_str_fr isTy_tup_ring noLs_frL frL_len opMin opMax opInt opIsT isTy_non isTy_bl isTy_int isTy_str isTy_tup isTy_lst isTy_tup_g isTy_tup_cut isTy_tup_ask opLen_cut opLen_g opIsN opInF beq_self_eq_true String.reduceBEq String.reduceEq reduceCtorEq wSl2 wPart wComp capsOf putAll unsAt shapeD_int shapeD_bl shapeD_non eqD_int eqD_str eqD_bl List.getElem?_cons_zero List.getElem?_cons_succ List.set_cons_zero List.set_cons_succ List.cons_append List.nil_append List.replicate_succ List.replicate_zero List.map_cons List.map_nil List.drop_succ_cons List.drop_zero Option.getD_some true_and decide_eq_true_eq Bool.not_eq_true' decide_eq_false_iff_not ite_true ite_false Bool.false_eq_true Bool.true_eq_false if_true if_false List.length_cons List.length_nil Nat.reduceAdd Nat.reduceSub atI_0 atI_1 atI_2 atI_3 atI_4 ix30 ix31 ix32 Option.some.injEq exists_eq_left' exists_eq_left".splitOn " ").toArray.map fun s=>Lean.mkIdent ((s.splitOn ".").foldl Lean.Name.mkStr Lean.Name.anonymous)
 `(tactic| try simp only [$[$ids:ident],*])
local macro_rules | `(tactic| walk_at "o")=>`(tactic| first | exact Or.inl rfl | exact Or.inr rfl)
theorem zX{a b:Prop}(h:a∨b:=by walk_at "o"):a∨b:=h
noncomputable abbrev s_is_whole:Stmt:=Hd.top 4
noncomputable abbrev N_is_whole:List Str:=["thing"]
noncomputable abbrev s_is_number_below:Stmt:=Hd.top 5
noncomputable abbrev N_is_number_below:List Str:=["thing","many"]
noncomputable abbrev s_whole_in:Stmt:=Hd.top 10
noncomputable abbrev N_whole_in:List Str:=["text","figures","found"]
noncomputable abbrev s_shown_tree:Stmt:=Hd.top 17
noncomputable abbrev N_shown_tree:List Str:=["tree","k","on","back"]
noncomputable abbrev s_cut_in:Stmt:=Hd.top 20
noncomputable abbrev N_cut_in:List Str:=["words","ties"]
noncomputable abbrev s_bar_in:Stmt:=Hd.top 22
noncomputable abbrev N_bar_in:List Str:=["text","within","start","sign"]
noncomputable abbrev s_split_in:Stmt:=Hd.top 21
noncomputable abbrev N_split_in:List Str:=["text","splits","parts","k","trees","bar","on","back"]
noncomputable abbrev s_tree_in:Stmt:=Hd.top 19
noncomputable abbrev N_tree_in:List Str:=["text","splits","words"]
noncomputable abbrev s_read_tree:Stmt:=Hd.top 18
noncomputable abbrev N_read_tree:List Str:=["text","found"]
noncomputable abbrev s__law_begun:Stmt:=Hd.top 24
noncomputable abbrev N__law_begun:List Str:=["_law_script","_law_k","_law_cell"]
noncomputable abbrev s__law_take:Stmt:=Hd.top 25
noncomputable abbrev N__law_take:List Str:=["_law_state","_law_many","_law_digit","_law_drawn","_law_turn"]
noncomputable abbrev s__law_leaf:Stmt:=Hd.top 26
noncomputable abbrev N__law_leaf:List Str:=["_law_state"]
noncomputable abbrev s__law_tree:Stmt:=Hd.top 27
noncomputable abbrev N__law_tree:List Str:=["_law_script","_law_most","_law_trees","_law_deeps","_law_k","_law_state","_law_way"]
noncomputable abbrev s__law_same:Stmt:=Hd.top 29
noncomputable abbrev N__law_same:List Str:=["_law_told","_law_due"]
noncomputable abbrev s__law_written:Stmt:=Hd.top 28
noncomputable abbrev N__law_written:List Str:=["_law_tree_here","_law_both"]
noncomputable abbrev s__law_right:Stmt:=Hd.top 30
noncomputable abbrev N__law_right:List Str:=["_law_tree_here","_law_text"]
noncomputable abbrev s_law:Stmt:=Hd.top 31
noncomputable abbrev N_law:List Str:=["_law_script","_law_tree_here","_law_deep","_law_k","_law_wide"]
def fs_is_whole:FS:=λls af=>(∃i:Int,ls=[.d (.int i)]/\af (.d (.bl true)) ls)∨∃d:D,ls=[.d d]/\(∀i,d≠.int i)/\af (.d (.bl false)) ls
def m_is_whole:W Fl:=(wRet (wAndV (wUn (opIsT "int") (wVar 0)) (wNotV (wTest (wUn (opIsT "bool") (wVar 0))))))
theorem sat_is_whole:∀ls af,ls.length=1->fs_is_whole ls af->m_is_whole (ls++List.replicate 0 .un) (okEnd ls af):=by
 rintro ls af-(⟨i,rfl,h⟩|⟨d,rfl,hd,h⟩)
 . unfold m_is_whole;walk_at "w";exact⟨_,back_d back0,h⟩
 .
  unfold m_is_whole
  cases d with
  |int i=>exact absurd rfl (hd i)
  |_=>walk_at "w"; exact⟨_,back_d back0,h⟩
def fs_is_number_below:FS:=λls af=>∃(d:D)(n:Int),ls=[.d d,.d (.int n)]/\af (.d (.bl (numbB d n))) ls
def m_is_number_below:W Fl:=(wRet (wAndV (wCall fs_is_whole (aVal (wVar 0) aNil)) (wChain opLe opLt (wC (.int 0)) (wVar 0) (wVar 1))))
theorem sat_is_number_below:∀ls af,ls.length=2->fs_is_number_below ls af->m_is_number_below (ls++List.replicate 0 .un) (okEnd ls af):=by
 rintro ls af - ⟨d,n,rfl,h⟩;unfold m_is_number_below;by_cases hd:∃i,d=.int i
 .
  obtain⟨i,rfl⟩:=hd;have h:af (.d (.bl (decide (0<=i/\i<n)))) [.d (.int i),.d (.int n)]:=h;walk_at "w";refine .inl ⟨i,rfl,?_⟩;walk_at "w";by_cases c:0<=i
  .
   rw[if_pos c];have e:decide (0<=i/\i<n)=decide (i<n):=by rw[decide_eq_decide];omega
   rw[e]at h;exact⟨_,back_d (back_d back0),h⟩
  . rw[if_neg c];have e:decide (0<=i/\i<n)=false:=aZ zZ;rw[e]at h;exact⟨_,back_d (back_d back0),h⟩
 .
  have e:numbB d n=false:=by
   unfold numbB;split
   . exact absurd ⟨_,rfl⟩ hd
   . rfl
  rw[e]at h;walk_at "w";refine .inr ⟨d,rfl,λi e=>hd ⟨i,e⟩,?_⟩;walk_at "w";exact⟨_,back_d (back_d back0),h⟩
def fs_whole_in:FS:=λls af=>∃x:Str,ls=[.d (.str x)]/\x.length<=100000/\(∀c∈x.cps.toList,c<128)/\af (.d (whD (wholeQ x))) ls
def c_whole_in_2:W Fl:=(wRet (wIfE (wTest (wBin opEqS (wCallD opStrI (aVal (wVar 2) aNil)) (wVar 0))) (wVar 2) (wC .non)))
def b_whole_in_0:W L:=(wChainN (wC (.str "0")) [(opLe2,(wVar 0)),(opLe2,(wC (.str "9")))])
def c_whole_in_1:W Fl:=(wSeq (wSet 2 (wFrz (wCallD opIntT (aVal (wVar 0) aNil))))
  c_whole_in_2)
def c_whole_in_0:W Fl:=(wSeq (wIf (wOr (wNot (wTest (wChain opLe opLe (wC (.int 1)) (wCallD opLen (aVal (wVar 1) aNil)) (wC (.int 60))))) (wNot (wTest (wCallD opAll (aVal (wFrz (wComp 1 [] (wSrcS (wVar 1)) (tgName 0) wTrue b_whole_in_0)) aNil))))) (wRet (wC .non)) wNext)
  c_whole_in_1)
def m_whole_in:W Fl:=(wSeq (wSet 1 (wFrz (wIfE (wTest (wStarts (wVar 0) "-")) (wSl2 (wVar 0) (some (wC (.int 1))) none) (wVar 0))))
  c_whole_in_0)
theorem wi_rest{x f:Str}{af:L->List L->Prop}(hf:f.cps.toList=figL x.cps.toList)(hx:x.length<=100000)(ha:∀c∈x.cps.toList,c<128)(h:af (.d (whD (wholeQ x))) [.d (.str x)]):c_whole_in_0 [.d (.str x),.d (.str f),.un] (okEnd [.d (.str x)] af):=by
 have fl:f.length<=100000:=by
  rw[len_cps]at hx;rw[len_cps,hf];unfold figL;split
  . rw[List.length_tail];omega
  . exact hx
 have fa:(f.cps.all λx=>decide (x<128))=true:=by
  rw[<- Array.all_toList,bb];intro c hc;rw[hf]at hc;refine bz (ha c ?_);unfold figL at hc;split at hc
  . exact List.mem_of_mem_tail hc
  . exact hc
 have e1:sizeLine=16777216:=by decide
 have el:=len_cps f;rw[hf]at el;unfold c_whole_in_0;walk_at "w";refine⟨zZ,?_⟩;by_cases c1:1<=(f.length:Int)
 .
  rw[if_pos c1];by_cases c2:(f.length:Int)<=60
  .
   rw[if_neg (λz=>z c2)];refine⟨fa,by unfold signsD;rw[aF,<- len_cps];omega,?_⟩;unfold signsD;refine comp_map (enc:=λc=>D.str ⟨#[c]⟩) (h:=λc=>D.bl (digB c)) _ _ _ (λc hc Q q=>?_) λl'=>?_
   .
    unfold b_whole_in_0;walk_at "w";unfold digB at q
    cases e1:strLe (Str.ofString "0") ⟨#[c]⟩with
    |false=>rw[e1,Bool.false_and]at q;rw[if_neg (by simp)];exact q
    |true=>rw[e1,Bool.true_and]at q;rw[if_pos rfl];exact q
   .
    walk_at "w";intro aa;refine⟨f.cps.toList.map digB,by rw[List.map_map];rfl,?_⟩;have e9:(f.cps.toList.map digB).all id=f.cps.toList.all digB:=by rw[List.all_map];rfl
    rw[e9,hf];dsimp only;by_cases d:(figL x.cps.toList).all digB=true
    .
     rw[if_neg (by rw[d];decide)];obtain⟨n,r1,r2,r3,r4⟩:=wh_read ((dig_all _).mp d) (λz=>by rw[z]at el;simp at el;omega) zZ;rw[r4]at h;unfold c_whole_in_1;walk_at "w";refine⟨n,r2,r1,?_⟩;unfold c_whole_in_2;walk_at "w";refine⟨log60 r3,?_⟩;by_cases g:numS n=x
     . rw[if_pos g]at h;rw[if_pos (show Str.ofString (toString n)=x from g)];exact⟨_,back_d back0,h⟩
     . rw[if_neg g]at h;rw[if_neg (show ¬Str.ofString (toString n)=x from g)];exact⟨_,back_d back0,h⟩
    . rw[if_pos (Bool.eq_false_iff.mpr d)];rw[wh_none (λz=>d ((dig_all _).mpr z.1))]at h;exact⟨_,back_d back0,h⟩
  . rw[if_pos c2];rw[wh_none (λz=>c2 zZ)]at h;exact⟨_,back_d back0,h⟩
 . rw[if_neg c1];rw[wh_none (λz=>z.2.1 (List.eq_nil_of_length_eq_zero zZ))]at h;exact⟨_,back_d back0,h⟩
theorem sat_whole_in:∀ls af,ls.length=1->fs_whole_in ls af->m_whole_in (ls++List.replicate 2 .un) (okEnd ls af):=by
 rintro ls af - ⟨x,rfl,hx,ha,h⟩;unfold m_whole_in;walk_at "w";rw[st_dash];by_cases c:x.cps.toList.head?=some 45
 .
  rw[if_pos (bz c)];have e:sizeLine=16777216:=by decide
  exact⟨zZ,wi_rest (fig_slice c) hx ha h⟩
 . rw[if_neg (by rw[aZ c];decide)];exact wi_rest (fig_self c) hx ha h
def fsr_shown_tree(n:Nat):FS:=λls af=>∃t:Tr,ls=[.d (trD t)]/\TrOk t/\t.dep<n/\t.nodes<=1000/\af (.d (.str (trS t))) ls
theorem no_shown_tree(ls:List L)(af:L->List L->Prop):¬fsr_shown_tree 0 ls af:=by rintro⟨t,_,_,h,_⟩;exact absurd h (Nat.not_lt_zero _)
abbrev fs_shown_tree:FS:=fsr_shown_tree 48
def c_shown_tree_3(self:FS):W Fl:=(wRet (wCat [(wFmt (wC (.str "split"))),(wC (.str " ")),(wFmt (wVar 1)),(wC (.str " [")),(wFmt (wVar 2)),(wFmt (wC (.str " | "))),(wFmt (wVar 3)),(wC (.str "]"))] Str.empty))
def c_shown_tree_2(self:FS):W Fl:=(wSeq (wSet 3 (wFrz (wCall self (aVal (wBin opIx (wVar 0) (wC (.int 3))) aNil))))
  (c_shown_tree_3 self))
def c_shown_tree_1(self:FS):W Fl:=(wSeq (wSet 2 (wFrz (wCall self (aVal (wBin opIx (wVar 0) (wC (.int 2))) aNil))))
  (c_shown_tree_2 self))
def b_shown_tree_0(self:FS):W L:=(wCallD opStrU (aVal (wVar 0) aNil))
def c_shown_tree_0(self:FS):W Fl:=(wSeq (wSet 1 (wBin opIx (wVar 0) (wC (.int 1))))
  (c_shown_tree_1 self))
def m_shown_tree(self:FS):W Fl:=(wSeq (wIf (wTest (wBin opNe (wBin opIx (wVar 0) (wC (.int 0))) (wC (.str "split")))) (wRet (wJoin " " (wComp 1 [] (wSrc (wVar 0)) (tgName 0) wTrue (b_shown_tree_0 self)))) wNext)
  (c_shown_tree_0 self))
theorem log_sm{k:Nat}(h:k<20):((k:Int)).natAbs.log2<1920:=log60 (bC (by rw[bM];omega:_<=20) zd)
theorem numS_len{k:Nat}(h:k<100):(numS (k:Int)).length<=2:=by rw[len_cps,num_pos];exact fig_two h
theorem sh_text{k:Nat}{a b:Tr}:Str.empty++Str.ofString "split"++Str.ofString " "++Str.ofString (toString (k:Int))++Str.ofString " ["++trS a++Str.ofString " | "++trS b++Str.ofString "]"=trS (.split k a b):=trS_is (by
 rw[show Str.ofString (toString (k:Int))=numS (k:Int)from rfl];simp only[app_cps,eS,eB,eO,eBar,eE,trS_cps,num_pos];show([]:List Nat)++_++_++_++_++_++_++_++_=_
 simp[trL])
theorem sh_end{n k:Nat}{a b:Tr}{x0:L}{Q:Fl->Ev->Prop}(hk:k<20)(ha:TrOk a)(hb:TrOk b)(na:a.nodes<=1000)(nb:b.nodes<=1000)(q:Q (.rt (.d (.str (trS (.split k a b))))) [x0,.d (.int (k:Int)),.d (.str (trS a)),.d (.str (trS b))]) :
  c_shown_tree_3 (fsr_shown_tree n) [x0,.d (.int (k:Int)),.d (.str (trS a)),.d (.str (trS b))] Q:=by
 have e:sizeLine=16777216:=by decide
 have la:=(trS_as ha).len;have lb:=(trS_as hb).len;have lk:=numS_len (k:=k) zZ;have l0:Str.empty.length=0:=rfl;have l1:(Str.ofString "split").length=5:=by decide +kernel
 have l2:(Str.ofString " ").length=1:=by decide +kernel
 have l3:(Str.ofString " [").length=2:=by decide +kernel
 have l4:(Str.ofString " | ").length=3:=by decide +kernel
 have l5:(Str.ofString "]").length=1:=by decide +kernel
 unfold numS at lk;unfold c_shown_tree_3;walk_at "w";simp only[strLen_append,l0,l1,l2,l3,l4,l5];rw[sh_text];exact⟨zZ,zZ,zZ,log_sm hk,zZ,zZ,zZ,zZ,zZ,zZ,zZ,zZ,zZ,zZ,q⟩
theorem sat_shown_tree:∀n ls af,ls.length=1->fsr_shown_tree (n+1) ls af->m_shown_tree (fsr_shown_tree n) (ls++List.replicate 3 .un) (okEnd ls af):=by
 rintro n ls af - ⟨t,rfl,ok,hd,hn,h⟩;unfold m_shown_tree
 cases t with
 | turned =>
  unfold trD;walk_at "w";refine⟨shT,shS,?_⟩;rw[if_pos (by decide +kernel)];refine⟨zd,comp_map (enc:=D.str) (h:=D.str) [Str.ofString "turned"] [] _ (λz hz Q q=>?_) λl' a=>?_⟩
  . unfold b_shown_tree_0;walk_at "w";exact q
  . refine⟨[Str.ofString "turned"],rfl,zb,?_⟩;rw[tj,show Str.join (Str.ofString " ") [Str.ofString "turned"]=trS .turned from trS_turned.symm];exact⟨_,back_d back0,h⟩
 | cut c =>
  have k1:=ok.1;have k2:=ok.2;unfold trD;walk_at "w";refine⟨shC,shS,?_⟩;rw[if_pos (by decide +kernel)]
  refine⟨zd,comp_map (enc:=λz:Option Nat=>match z with | none=>D.str "cut" | some n=>.int (n:Int)) (h:=λz=>match z with | none=>D.str "cut" | some n=>.str (numS (n:Int))) [none,some c.1,some c.2] [] _ (λz hz Q q=>?_) λl' a=>?_⟩
  .
   unfold b_shown_tree_0
   cases z with
   | none =>
    walk_at "w";exact q
   | some n =>
    have:n<20:=by simp only[az,reduceCtorEq,aG,bh,or_false,false_or]at hz;omega
    walk_at "w";exact⟨log_sm this,q⟩
  .
   have l1:=numS_len (k:=c.1) zZ;have l2:=numS_len (k:=c.2) zZ;have l3:(Str.ofString " ").length=1:=by decide +kernel
   have l4:(Str.ofString "cut").length=3:=by decide +kernel
   refine⟨[Str.ofString "cut",numS (c.1:Int),numS (c.2:Int)],rfl,?_,?_⟩
   . simp only[aL,List.map_nil,List.sum_cons,List.sum_nil,aK,bq,l3,l4];omega
   rw[tj,<- spl_cut,PySem.StrLaws.join_split];exact⟨_,back_d back0,h⟩
 | split k a b =>
  obtain⟨hk,ha,hb⟩:=ok;have hd:max a.dep b.dep+1<n+1:=hd;have hn:a.nodes+b.nodes+1<=1000:=hn;unfold trD;walk_at "w";refine⟨shS,shS,?_⟩;rw[if_neg (by simp)];unfold c_shown_tree_0;walk_at "w";unfold c_shown_tree_1;walk_at "w";refine⟨a,rfl,ha,zZ,zZ,?_⟩;walk_at "w";unfold c_shown_tree_2;walk_at "w";refine⟨b,rfl,hb,zZ,zZ,?_⟩;walk_at "w";exact sh_end hk ha hb zZ zZ ⟨_,back_d back0,h⟩
def fs_cut_in:FS:=λls af=>∃ c:Nat×Nat,ls=[.d (.lst [.str "cut",.str (numS (c.1:Int)),.str (numS (c.2:Int))])]/\c.1 < 12/\c.2 < 12/\af (.d (trD (.cut c))) ls
def b_cut_in_0:W L:=(wCall fs_is_number_below (aVal (wVar 0) (aVal (wC (.int 12)) aNil)))
def b_cut_in_1:W L:=(wCall fs_whole_in (aVal (wVar 0) aNil))
def m_cut_in:W Fl:=(wSeq (wSet 1 (wComp 1 [] (wSrc (wSl2 (wVar 0) (some (wC (.int 1))) none)) (tgName 0) wTrue b_cut_in_1))
  (wSeq (wIf (wOr (wTest (wBin opNe (wCallD opLen (aVal (wVar 1) aNil)) (wC (.int 2)))) (wNot (wTest (wCallD opAll (aVal (wFrz (wComp 1 [] (wSrc (wVar 1)) (tgName 0) wTrue b_cut_in_0)) aNil))))) (wRet (wC .non)) wNext)
  (wRet (wTup (aVal (wC (.str "cut")) (aVal (wBin opIx (wVar 1) (wC (.int 0))) (aVal (wBin opIx (wVar 1) (wC (.int 1))) aNil)))))))
theorem numS_as{k:Nat}(h:k<12):(numS (k:Int)).length<=100000/\∀c∈(numS (k:Int)).cps.toList,c<128:=by rw[len_cps,num_pos];exact⟨by have:=fig_two (k:=k) zZ;omega,λc hc=>by have:=fig_sign hc;omega⟩
theorem wh_of{k:Nat}(h:k<20):whD (wholeQ (numS (k:Int)))=.int (k:Int):=by rw[wh_num (bC (by rw[bM];omega:_<=20) zd)];rfl
theorem sat_cut_in:∀ls af,ls.length=1->fs_cut_in ls af->m_cut_in (ls++List.replicate 1 .un) (okEnd ls af):=by
 rintro ls af - ⟨c,rfl,h1,h2,h⟩;unfold m_cut_in;walk_at "w";intro a0;rw[show cutD [D.str (Str.ofString "cut"),D.str (numS (c.1:Int)),D.str (numS (c.2:Int))] (some 1) none=[D.str (numS (c.1:Int)),D.str (numS (c.2:Int))]from rfl];refine⟨(show 2<=sizeLine by decide),comp_map (enc:=λn:Nat=>D.str (numS (n:Int))) (h:=λn:Nat=>D.int (n:Int)) [c.1,c.2] [] _ (λn hz Q q=>?_) λl' a=>?_⟩
 .
  have hn:n<12:=by simp only[az,bh,or_false]at hz;omega
  unfold b_cut_in_1;walk_at "w";refine⟨_,rfl,(numS_as hn).1,(numS_as hn).2,?_⟩;rw[wh_of zZ];walk_at "w";exact q
 .
  walk_at "w";refine⟨(show 2<=sizeLine by decide),comp_map (enc:=λn:Nat=>D.int (n:Int)) (h:=λn:Nat=>D.bl true) [c.1,c.2] [] _ (λn hz Q q=>?_) λl' a=>?_⟩
  .
   have hn:n<12:=by simp only[az,bh,or_false]at hz;omega
   unfold b_cut_in_0;walk_at "w";refine⟨_,_,rfl,?_⟩;have e:numbB (.int (n:Int)) 12=true:=bz ⟨zZ,zZ⟩;rw[e];walk_at "w";exact q
  . refine⟨[true,true],rfl,?_⟩;walk_at "w";exact⟨zd,_,back_d back0,h⟩
def fs_bar_in:FS:=λls af=>∃x:Str,ls=[.d (.str x)]/\As 100000 x/\af (.d (whD ((barQ 0 x.cps.toList).map λn=>(n:Int)))) ls
def c_bar_in_b1_1:W Fl:=(wIf (wAnd (wTest (wBin opEq (wVar 1) (wC (.int 0)))) (wTest (wBin opEq (wSl2 (wVar 0) (some (wVar 2)) (some (wBin opAdd (wVar 2) (wCallD opLen (aVal (wC (.str " | ")) aNil))))) (wC (.str " | "))))) (wRet (wMove 2)) wNext)
def c_bar_in_b1_0:W Fl:=(wSeq (wIf (wTest (wBin opEq (wVar 3) (wC (.str "]")))) (wAug 1 (λi j=>i-j) (wC (.int 1))) wNext)
  c_bar_in_b1_1)
def b_bar_in_0:W Fl:=(wSeq (wIf (wTest (wBin opEq (wVar 3) (wC (.str "[")))) (wAug 1 (λi j=>i+j) (wC (.int 1))) wNext)
  c_bar_in_b1_0)
def m_bar_in:W Fl:=(wSeq (wSet 1 (wC (.int 0)))
  (wSeq (wFor (wEnumS (wVar 0)) (tgTup [2,3]) b_bar_in_0)
  (wRet (wC .non))))
theorem sh_one{c:Nat}(h:c<128):shapeD (.str ⟨#[c]⟩):=shape_asc λd hd=>by
 have:d=c:=by simpa using hd
 omega
theorem one_is{c:Nat}{k:Nat}{s:Str}(h:s.cps.toList=[k]):((⟨#[c]⟩:Str)=s)↔c=k :=
 ⟨λe=>by
  have:=congrArg (λz:Str=>z.cps.toList) e;rw[h]at this
  simpa using this,λe=>by subst e;exact str_cps h.symm⟩
theorem eOp:(Str.ofString "[").cps.toList=[91]:=by decide +kernel
theorem bar_end{x:Str}{c j:Nat}{w:Int}{l:List Nat}{Q:Fl->Ev->Prop}(ax:As 100000 x)(e:x.cps.toList.drop j=c::l)(h1:(w=0/\(c::l).take 3=[32,124,32])->Q (.rt (.d (.int (j:Int)))) [.d (.str x),.d (.int w),.d (.int (j:Int)),.d (.str ⟨#[c]⟩)])
  (h2:¬(w=0/\(c::l).take 3=[32,124,32])->Q .nx [.d (.str x),.d (.int w),.d (.int (j:Int)),.d (.str ⟨#[c]⟩)]) :
  c_bar_in_b1_1 [.d (.str x),.d (.int w),.d (.int (j:Int)),.d (.str ⟨#[c]⟩)] Q:=by
 have e0:sizeLine=16777216:=by decide
 have l4:(Str.ofString " | ").length=3:=by decide +kernel
 have lx:=ax.len;have hj:j<=x.length:=by have:=congrArg List.length e;rw[aU,<- len_cps,aK]at this;omega
 unfold c_bar_in_b1_1;walk_at "w";by_cases c1:w=0
 .
  rw[if_pos c1];rw[l4];refine⟨zZ,zZ,shape_asc (ax.slice _ _).asc,shape_asc (as_con (n:=3) zb).asc,?_⟩
  have es:(Txt.slice x (some (j:Int)) (some ((j:Int)+((3:Nat):Int)))).cps.toList=(c::l).take 3:=by
   rw[slice_mid zZ zZ zZ,Int.toNat_natCast,e]
   congr 1
   omega
  by_cases c2:(c::l).take 3=[32,124,32]
  . rw[if_pos (str_cps (by rw[es,c2,eBar]))];exact h1 ⟨c1,c2⟩
  . rw[if_neg (λz=>c2 (by rw[<- es,z,eBar]))];exact h2 λz=>c2 z.2
 . rw[if_neg c1];exact h2 λz=>c1 z.1
theorem bar_step{x:Str}{c j:Nat}{w:Int}{l:List Nat}{Q:Fl->Ev->Prop}(ax:As 100000 x)(e:x.cps.toList.drop j=c::l)(h1:(w+brW c=0/\(c::l).take 3=[32,124,32])->Q (.rt (.d (.int (j:Int)))) [.d (.str x),.d (.int (w+brW c)),.d (.int (j:Int)),.d (.str ⟨#[c]⟩)])
  (h2:¬(w+brW c=0/\(c::l).take 3=[32,124,32])->Q .nx [.d (.str x),.d (.int (w+brW c)),.d (.int (j:Int)),.d (.str ⟨#[c]⟩)]) :
  b_bar_in_0 [.d (.str x),.d (.int w),.d (.int (j:Int)),.d (.str ⟨#[c]⟩)] Q:=by
 have hc:c<128:=ax.asc c (List.mem_of_mem_drop (by rw[e];exact ai));have sh:=sh_one hc;have rest:∀w',w'=w+brW c->c_bar_in_b1_1 [.d (.str x),.d (.int w'),.d (.int (j:Int)),.d (.str ⟨#[c]⟩)] Q:=λw' ew=>by subst ew;exact bar_end ax e h1 h2
 unfold b_bar_in_0;walk_at "w";refine⟨sh,shape_asc (as_con (n:=1) zb).asc,?_⟩;by_cases c1:c=91
 . rw[if_pos ((one_is eOp).mpr c1)];unfold wAug;walk_at "w";rw[augW_int];unfold c_bar_in_b1_0;walk_at "w";refine⟨sh,shape_asc (as_con (n:=1) zb).asc,?_⟩;rw[if_neg (λz=>by have:=(one_is eE).mp z;omega)];exact rest _ (by subst c1;rfl)
 .
  rw[if_neg (λz=>c1 ((one_is eOp).mp z))];unfold c_bar_in_b1_0;walk_at "w";refine⟨sh,shape_asc (as_con (n:=1) zb).asc,?_⟩;by_cases c2:c=93
  . rw[if_pos ((one_is eE).mpr c2)];unfold wAug;walk_at "w";rw[augW_int];exact rest _ (by subst c2;rfl)
  . rw[if_neg (λz=>c2 ((one_is eE).mp z))];exact rest _ (by rw[brW0 c1 c2];omega)
theorem bar_loop{x:Str}(ax:As 100000 x){af:Fl->Ev->Prop}:∀(l:List Nat)(j:Nat)(w:Int)(x2 x3:L),x.cps.toList.drop j=l ->
  (∀k,barQ w l=some k->∀a b c,af (.rt (.d (.int ((j+k:Nat):Int)))) [.d (.str x),a,b,c])->(barQ w l=none->∀a b c,af .nx [.d (.str x),a,b,c]) ->
  wForL (tgTup [2,3]) b_bar_in_0 ((l.zipIdx j).map λp=>D.tup [.int (p.2:Int),.str ⟨#[p.1]⟩]) [.d (.str x),.d (.int w),x2,x3] af
 |[],j,w,x2,x3,_,_,h=>h rfl _ _ _
 | c::l,j,w,x2,x3,e,h1,h2=>by
  rw[List.zipIdx_cons,aL];unfold wForL;walk_at "w";rw[barQ_cons]at h1 h2;refine bar_step ax e (λz=>?_) λz=>?_
  . rw[if_pos z]at h1;exact h1 0 rfl _ _ _
  .
   rw[if_neg z]at h1 h2;refine bar_loop ax l (j+1) _ _ _ ?_ (λk hk a b c'=>?_) λhn=>h2 (by rw[hn];rfl)
   . rw[<- List.drop_drop,e];rfl
   . have:=h1 (k+1) (by rw[hk];rfl) a b c';rwa [show j+(k+1)=j+1+k by omega]at this
theorem sat_bar_in:∀ls af,ls.length=1->fs_bar_in ls af->m_bar_in (ls++List.replicate 3 .un) (okEnd ls af):=by
 rintro ls af - ⟨x,rfl,ax,h⟩;unfold m_bar_in;walk_at "w";refine⟨?_,?_⟩
 . rw[<- Array.all_toList,bb];exact λc hc=>bz (ax.asc c hc)
 have e:enumD (signsD x)=(x.cps.toList.zipIdx 0).map λp=>D.tup [.int (p.2:Int),.str ⟨#[p.1]⟩]:=by unfold enumD signsD;rw[List.zipIdx_map,List.map_map];rfl
 rw[e];refine bar_loop ax _ 0 0 _ _ rfl (λk hk a b c=>?_) λhn a b c=>?_
 . rw[hk]at h;rw[Nat.zero_add];exact⟨_,back_d back0,h⟩
 . rw[hn]at h;exact⟨_,back_d back0,h⟩
abbrev fs_split_in:FS:=fsr_split_in 48
def c_split_in_6(self:FS):W Fl:=(wRet (wIfE (wOr (wTest (wBin opIsN (wVar 6) (wC .non))) (wTest (wBin opIsN (wVar 7) (wC .non)))) (wC .non) (wTup (aVal (wC (.str "split")) (aVal (wVar 3) (aVal (wVar 6) (aVal (wVar 7) aNil)))))))
def c_split_in_5(self:FS):W Fl:=(wSeq (wSet 7 (wFrz (wCall self (aVal (wFrz (wSl2 (wVar 4) (some (wBin opAdd (wVar 5) (wCallD opLen (aVal (wC (.str " | ")) aNil)))) (some (wUn opNeg (wC (.int 1)))))) (aVal (wBin opSub (wVar 1) (wC (.int 1))) aNil)))))
  (c_split_in_6 self))
def c_split_in_4(self:FS):W Fl:=(wSeq (wSet 6 (wFrz (wCall self (aVal (wFrz (wSl2 (wVar 4) none (some (wVar 5)))) (aVal (wBin opSub (wVar 1) (wC (.int 1))) aNil)))))
  (c_split_in_5 self))
def c_split_in_3(self:FS):W Fl:=(wSeq (wIf (wOr (wNot (wTest (wCall fs_is_number_below (aVal (wVar 3) (aVal (wC (.int 20)) aNil))))) (wOr (wTest (wBin opIsN (wVar 5) (wC .non))) (wNot (wTest (wEnds (wVar 4) "]"))))) (wRet (wC .non)) wNext)
  (c_split_in_4 self))
def c_split_in_2(self:FS):W Fl:=(wSeq (wSet 5 (wFrz (wCall fs_bar_in (aVal (wVar 4) aNil))))
  (c_split_in_3 self))
def c_split_in_1(self:FS):W Fl:=(wSeq (wSet 4 (wBin opIx (wVar 2) (wC (.int 2))))
  (c_split_in_2 self))
def c_split_in_0(self:FS):W Fl:=(wSeq (wSet 3 (wFrz (wCall fs_whole_in (aVal (wFrz (wSl2 (wBin opIx (wVar 2) (wC (.int 0))) (some (wBin opAdd (wCallD opLen (aVal (wC (.str "split")) aNil)) (wC (.int 1)))) none)) aNil))))
  (c_split_in_1 self))
def m_split_in(self:FS):W Fl:=(wSeq (wSet 2 (wFrz (wPtn (wVar 0) " [")))
  (c_split_in_0 self))
theorem sp_3{n k:Nat}{a b:Tr}{s:Int}{x0 x2:L}{R:Str}{Q:Fl->Ev->Prop}(hk:k<20)(ha:TrOk a)(hb:TrOk b)(da:2*a.dep<n)(db:2*b.dep<n)(sa:(a.dep:Int)<=s-1)(sb:(b.dep:Int)<=s-1)(s1:s<=100)(na:a.nodes<=1000)(nb:b.nodes<=1000)
  (eR:R.cps.toList=trL a++([32,124,32]++(trL b++[93]))) (q:Q (.rt (.d (trD (.split k a b)))) [x0,.d (.int s),x2,.d (.int (k:Int)),.d (.str R),.d (.int ((trL a).length:Int)),.d (trD a),.d (trD b)]) :
  c_split_in_3 (fsr_tree_in n) [x0,.d (.int s),x2,.d (.int (k:Int)),.d (.str R),.d (.int ((trL a).length:Int)),.un,.un] Q:=by
 have e0:sizeLine=16777216:=by decide
 have lR:R.length=(trL a).length+(3+((trL b).length+1)):=by rw[len_cps,eR];simp;omega
 have la:=trL_len ha;have lb:=trL_len hb
 have s_on:Txt.slice R none (some ((trL a).length:Int))=trS a:=trS_is (by
  rw[slice_to zZ zZ,eR,Int.toNat_natCast,List.take_left])
 have s_back:Txt.slice R (some (((trL a).length:Int)+((Str.ofString " | ").length:Int))) (some (-1))=trS b:=trS_is (by
  have l4:(Str.ofString " | ").length=3:=by decide +kernel
  rw[l4,slice_back zZ zZ,eR,show(((trL a).length:Int)+((3:Nat):Int)).toNat=(trL a).length+3 by omega,<- List.drop_drop,List.drop_left];show(trL b++[93]).take _=_
  rw[show((R.length:Int)-1-(((trL a).length:Int)+((3:Nat):Int))).toNat=(trL b).length by omega,List.take_left])
 have en:Txt.endswith R (Str.ofString "]")=true:=by
  have l5:(Str.ofString "]").length=1:=by decide +kernel
  unfold Txt.endswith
  rw[l5,bz zZ,Bool.true_and,PySem.StrLaws.subAt_eq,l5,eE,beq_iff_eq,eR,
   show trL a++([32,124,32]++(trL b++[93]))=(trL a++([32,124,32]++trL b))++[93] by simp,
   show R.length-1=(trL a++([32,124,32]++trL b)).length by simp;omega,List.drop_left]
  rfl
 have e:numbB (.int (k:Int)) 20=true:=bz ⟨zZ,zZ⟩;unfold c_split_in_3;walk_at "w";refine⟨_,_,rfl,?_⟩;rw[e];walk_at "w";rw[en];walk_at "w";unfold c_split_in_4;walk_at "w";rw[s_on];refine⟨zZ,a,s-1,rfl,ha,da,sa,zZ,na,?_⟩;walk_at "w";unfold c_split_in_5;walk_at "w";rw[s_back];refine⟨zb,zZ,b,s-1,rfl,hb,db,sb,zZ,nb,?_⟩;walk_at "w";unfold c_split_in_6;walk_at "w";rw[if_neg (by cases a<;>simp[trD]),if_neg (by cases b<;>simp[trD])];exact⟨zd,q⟩
theorem sat_split_in:∀n ls af,ls.length=2->fsr_split_in (n+1) ls af->m_split_in (fsr_tree_in n) (ls++List.replicate 6 .un) (okEnd ls af):=by
 rintro n ls af - ⟨k,a,b,s,rfl,ok,hd,_,h1,h2,hn,h⟩;obtain⟨hk,ha,hb⟩:=id ok;have hd:2*(max a.dep b.dep+1)<=n+1:=hd;have h1:((max a.dep b.dep+1:Nat):Int)<=s:=h1;have hn:a.nodes+b.nodes+1<=1000:=hn;have e0:sizeLine=16777216:=by decide
 have ln:(trS (.split k a b)).length<=14*1000:=aY (trS_as ok).len (Nat.mul_le_mul_left _ hn);unfold m_split_in;walk_at "w";refine⟨⟨zb,zZ⟩,?_⟩;obtain⟨P,eP⟩:∃P:Str,P.cps.toList=cS++([32]++figs k):=⟨⟨(cS++([32]++figs k)).toArray⟩,zY⟩;obtain⟨R,eR⟩:∃R:Str,R.cps.toList=trL a++([32,124,32]++(trL b++[93])):=⟨⟨(trL a++([32,124,32]++(trL b++[93]))).toArray⟩,zY⟩;have eX:(trS (.split k a b)).cps.toList=P.cps.toList++([32,91]++R.cps.toList):=by rw[trS_cps,eP,eR];rfl
 have pt:=ptn_first eX (by
  rw[eP];intro hm;simp only[aM,az,bh,or_false]at hm;rcases hm with hm|hm|hm
  . omega
  . omega
  .
   have:=fig_sign hm;omega)
 rw[pt];have lX:=len_cps (trS (.split k a b));rw[eX,aC,aC,<- len_cps,<- len_cps]at lX;have lP:P.length=6+(figs k).length:=by rw[len_cps,eP];simp;omega
 have lR:R.length=(trL a).length+(3+((trL b).length+1)):=by rw[len_cps,eR];simp;omega
 have aR:As 100000 R:=⟨zZ,λc hc=>(trS_as ok).asc c (by rw[eX];simp[hc])⟩;unfold c_split_in_0;walk_at "w"
 have sl:Txt.slice P (some (((Str.ofString "split").length:Int)+1)) none=numS (k:Int):=str_cps (by
  have l1:(Str.ofString "split").length=5:=by decide +kernel
  rw[l1,slice_from zZ zZ,eP,num_pos]
  rfl)
 refine⟨zb,zZ,?_⟩;rw[sl];refine⟨_,rfl,(by rw[len_cps,num_pos];have:=fig_two (k:=k) zZ;omega),(λc hc=>by rw[num_pos]at hc;have:=fig_sign hc;omega),?_⟩;rw[wh_of hk];walk_at "w";unfold c_split_in_1;walk_at "w";unfold c_split_in_2;walk_at "w";refine⟨R,rfl,aR,?_⟩;rw[eR,bar_tr];walk_at "w";exact sp_3 hk ha hb zZ zZ zZ zZ zZ zZ zZ eR ⟨_,back_d (back_d back0),h⟩
abbrev fs_tree_in:FS:=fsr_tree_in 48
def m_tree_in(self:FS):W Fl:=(wSeq (wSet 2 (wFrz (wSplit (wVar 0) " ")))
  (wSeq (wIf (wTest (wBin opEq (wVar 2) (wLst (aVal (wC (.str "turned")) aNil)))) (wRet (wTup (aVal (wC (.str "turned")) aNil))) wNext)
  (wSeq (wIf (wTest (wBin opEq (wBin opIx (wVar 2) (wC (.int 0))) (wC (.str "cut")))) (wRet (wCall fs_cut_in (aVal (wVar 2) aNil))) wNext)
  (wSeq (wIf (wAnd (wTest (wBin opEq (wBin opIx (wVar 2) (wC (.int 0))) (wC (.str "split")))) (wTest (wBin opGt (wVar 1) (wC (.int 0))))) (wRet (wCall self (aVal (wVar 0) (aVal (wVar 1) aNil)))) wNext)
  (wRet (wC .non))))))
theorem sat_tree_in:∀n ls af,ls.length=2->fsr_tree_in (n+1) ls af->m_tree_in (fsr_split_in n) (ls++List.replicate 1 .un) (okEnd ls af):=by
 rintro n ls af - ⟨t,s,rfl,ok,hd,h1,h2,hn,h⟩;have e0:sizeLine=16777216:=by decide
 have ax:=(trS_as ok).mono (m:=14000) zZ;have so:=spl_as ax (y:=Str.ofString " ") zd zb;have ps:=part_as (y:=Str.ofString " ") ax;have st:shapeD (D.lst [D.str (Str.ofString "turned")]):=sh_strs (zs:=[Str.ofString "turned"]) λz hz=>by rw[aP.mp hz]; exact as_turned
 unfold m_tree_in;walk_at "w";refine⟨so,λa0=>⟨zd,λa1=>⟨sh_strs ps,st,?_⟩⟩⟩
 cases t with
 | turned =>
  rw[spl_turned];rw[if_pos (by rw[aL,List.map_nil];exact eqD_refl (n:=1) (by simpa[okD,okDs]using as_turned.ok))];exact⟨zd,_,back_d (back_d back0),h⟩
 | cut c =>
  rw[spl_cut];rw[if_neg (by rw[aL,eqD_head zb];decide)];refine⟨_,rfl,sh_as as_cut,sh_as as_cut,?_⟩;rw[if_pos (by simp)];exact⟨c,rfl,ok.1,ok.2,_,back_d (back_d back0),h⟩
 | split k a b =>
  obtain⟨r,er⟩:=spl_split k a b;rw[er];rw[if_neg (by rw[aL,eqD_head zb];decide)];refine⟨.str (Str.ofString "split"),by rw[aL]; exact atI_0,sh_as as_split,sh_as as_cut,?_⟩;rw[if_neg (by rw[eqD_str];exact λz=>absurd (bS z) zb)];refine⟨.str (Str.ofString "split"),by rw[aL]; exact atI_0,sh_as as_split,sh_as as_split,?_⟩;rw[if_pos (by simp)];have hp:0<(Tr.split k a b).dep:=Nat.succ_pos _;rw[if_pos (by omega)];exact⟨k,a,b,s,rfl,ok,zZ,zZ,h1,h2,hn,_,back_d (back_d back0),h⟩
def fs_read_tree:FS:=λls af=>∃t:Tr,ls=[.d (.str (trS t))]/\TrOk t/\t.dep<=20/\t.nodes<=1000/\af (.d (trD t)) ls
def m_read_tree:W Fl:=(wSeq (wSet 1 (wIfE (wTest (wUn (opIsT "str") (wVar 0))) (wCall fs_tree_in (aVal (wVar 0) (aVal (wC (.int 20)) aNil))) (wC .non)))
  (wSeq (wIf (wTest (wBin opIsN (wVar 1) (wC .non))) wNever wNext)
  (wRet (wMove 1))))
theorem sat_read_tree:∀ls af,ls.length=1->fs_read_tree ls af->m_read_tree (ls++List.replicate 1 .un) (okEnd ls af):=by rintro ls af - ⟨t,rfl,ok,hd,hn,h⟩;unfold m_read_tree;walk_at "w";refine⟨_,_,rfl,ok,zZ,zZ,zd,hn,?_⟩;walk_at "w";rw[if_neg (by cases t<;>simp[trD])];exact⟨_,back_d back0,h⟩
def fs__law_begun:FS:=λls af=>∃(ns:List Int)(k:Int),ls=[.d (.lst (ns.map .int)),.d (.int k)]/\0<=k/\k<=100/\∀a xs,StOk xs->af (.own a xs) ls
def m__law_begun:W Fl:=(wSeq (wSet 2 (wC (.int 0)))
  (wSeq (wIf (wTest (wBin opLt (wVar 1) (wCallD opLen (aVal (wVar 0) aNil)))) (wSet 2 (wBin opIx (wVar 0) (wVar 1))) wNext)
  (wRet (wLst (aVal (wVar 2) (aVal (wBin opMod (wBin opAdd (wBin opAdd (wBin opMod (wVar 2) (wC (.int 2147483587))) (wBin opMulI (wBin opMulI (wC (.int 48271)) (wVar 1)) (wVar 1))) (wC (.int 13))) (wC (.int 2147483587))) (aVal (wBin opGe (wVar 2) (wBin opPow (wC (.int 10)) (wC (.int 18)))) aNil)))))))
theorem sat__law_begun:∀ls af,ls.length=2->fs__law_begun ls af->m__law_begun (ls++List.replicate 1 .un) (okEnd ls af):=by
 rintro ls af - ⟨ns,k,rfl,h0,h1,h⟩;unfold m__law_begun
 have fin:∀(c:Int)(Z:Ev)(e:Z=[.d (.lst (ns.map .int)),.d (.int k),.d (.int c)]),∀a:Addr,okEnd [.d (.lst (ns.map .int)),.d (.int k)] af (.rt (.own a [.int c,.int ((c.fmod 2147483587+48271*k*k+13).fmod 2147483587),.bl (decide ((10:Int)^18<=c))])) Z:=λc Z e a=>by
  refine⟨_,back_d (back_d back0),h a _ ⟨_,_,_,rfl,?_,?_⟩⟩
  . rw[Int.fmod_eq_emod_of_nonneg _ zd];exact Int.emod_nonneg _ zd
  . rw[Int.fmod_eq_emod_of_nonneg _ zd];have:=Int.emod_lt_of_pos (c.fmod 2147483587+48271*k*k+13) (b:=2147483587) zd;omega
 have hb1:bitsOk 48271:=bits_small zd;have hb2:bitsOk k:=bits_small (bC (show k.natAbs<=100 by omega) zd);have hb3:bitsOk (48271*k):=bits_small (bC (show(48271*k).natAbs<=4827100 by omega) zd);walk_at "w"
 try rw[aF]
 split
 .
  rename_i hk;have hk:k<(ns.length:Int):=by simpa using hk
  have hi:k.toNat<ns.length:=by omega
  refine⟨.int ns[k.toNat],atI_of h0 (by rw[bo,aA hi];rfl),?_⟩;exact⟨zd,hb1,hb2,hb3,hb2,zd,zd,zd,zd,zd,fin _ _ rfl⟩
 . exact⟨zd,hb1,hb2,hb3,hb2,zd,zd,zd,zd,zd,fin _ _ rfl⟩
def fs__law_take:FS:=λls af=>∃(a:Addr)(xs:List D)(m:Int),ls=[.own a xs,.d (.int m)]/\StOk xs/\0<m/\m<=10^60/\∀(r:Int)(ys:List D),StOk ys->0<=r->r<m->af (.d (.int r)) [.own a ys,.d (.int m)]
def b__law_take_0:W Fl:=(wSeq (wSetV 0 (wC (.int 1)) (wBin opMod (wBin opAdd (wBin opMulI (wIsOwn 0 (wIxV 0 (wC (.int 1))) (wBin opIx (wVar 0) (wC (.int 1)))) (wC (.int 39373))) (wC (.int 17))) (wC (.int 2147483647))))
  (wSet 3 (wFrz (wBin opAdd (wBin opMulI (wVar 3) (wC (.int 2147483629))) (wBin opMod (wBin opMulI (wIsOwn 0 (wIxV 0 (wC (.int 1))) (wBin opIx (wVar 0) (wC (.int 1)))) (wIsOwn 0 (wIxV 0 (wC (.int 1))) (wBin opIx (wVar 0) (wC (.int 1))))) (wC (.int 2147483629)))))))
def m__law_take:W Fl:=(wSeq (wIf (wTest (wIsOwn 0 (wIxV 0 (wC (.int 2))) (wBin opIx (wVar 0) (wC (.int 2))))) (wSeq (wSet 2 (wBin opMod (wIsOwn 0 (wIxV 0 (wC (.int 0))) (wBin opIx (wVar 0) (wC (.int 0)))) (wVar 1)))
  (wSeq (wSetV 0 (wC (.int 0)) (wBin opDiv (wIsOwn 0 (wIxV 0 (wC (.int 0))) (wBin opIx (wVar 0) (wC (.int 0)))) (wVar 1)))
  (wSeq (wSetV 0 (wC (.int 2)) (wBin opGt (wIsOwn 0 (wIxV 0 (wC (.int 0))) (wBin opIx (wVar 0) (wC (.int 0)))) (wC (.int 0))))
  (wRet (wMove 2))))) wNext)
  (wSeq (wSet 3 (wC (.int 0)))
  (wSeq (wFor (wRng1 (wBin opAdd (wC (.int 1)) (wBin opMulI (wC (.int 8)) (wCallD opInt (aVal (wBin opGt (wVar 1) (wBin opPow (wC (.int 10)) (wC (.int 6)))) aNil))))) (tgName 4) b__law_take_0)
  (wRet (wBin opMod (wBin opDiv (wVar 3) (wC (.int 64))) (wVar 1))))))
theorem take_loop{a:Addr}{c:Int}{m x2:L}{af:Fl->Ev->Prop}:∀(items:List D)(sd dr:Int)(j:Nat)(x4:L),j+items.length<=100->0<=sd->sd<2147483647->0<=dr->dr<2^(40*j) ->
  (∀sd' dr' x',0<=sd'->sd' < 2147483647->0<=dr'->af .nx [.own a [.int c,.int sd',.bl false],m,x2,.d (.int dr'),x']) ->
  wForL (tgName 4) b__law_take_0 items [.own a [.int c,.int sd,.bl false],m,x2,.d (.int dr),x4] af
 |[],sd,dr,j,x4,_,h0,h1,h2,h3,h=>h sd dr x4 h0 h1 h2
 | y::items,sd,dr,j,x4,hl,h0,h1,h2,h3,h=>by
  unfold wForL b__law_take_0;walk_at "w";obtain⟨r0,r1⟩:=fmod_rng (sd*39373+17) (m:=2147483647) zd;generalize (sd*39373+17).fmod 2147483647=s' at r0 r1 ⊢;obtain⟨q0,q1⟩:=fmod_rng (s'*s') (m:=2147483629) zd;generalize (s'*s').fmod 2147483629=t' at q0 q1 ⊢;have hl':j+(items.length+1)<=100:=hl;have b1:bitsOk sd:=bits_le (n:=40) h0 zZ zd;have b2:bitsOk s':=bits_le (n:=40) r0 zZ zd;have b3:bitsOk dr:=bits_le (n:=40*j) h2 h3 zZ;have b4:bitsOk 39373:=bits_small zd;have b5:bitsOk 2147483629:=bits_small zd;refine⟨b1,b4,zd,b3,b5,b2,b2,zd,?_⟩;refine take_loop items s' (dr*2147483629+t') (j+1) _ zZ r0 r1 zZ ?_ h;have e:(2:Int)^(40*(j+1))=2^(40*j)*1099511627776:=by rw[Nat.mul_succ,Int.pow_add];rfl
  omega
theorem sat__law_take:∀ls af,ls.length=2->fs__law_take ls af->m__law_take (ls++List.replicate 3 .un) (okEnd ls af):=by
 rintro ls af - ⟨a,xs,m,rfl,⟨c,sd,t,rfl,h0,h1⟩,hm,hM,h⟩;unfold m__law_take;have hm0:m≠0:=by omega
 have hmz:=small9000 zZ hM
 cases t with
 | true =>
  walk_at "w";obtain⟨r0,r1⟩:=fmod_rng c hm;exact⟨hm0,hm0,hmz,_,back_own ai (back_d back0),h _ _ ⟨_,_,_,rfl,h0,h1⟩ r0 r1⟩
 | false =>
  walk_at "w";refine⟨zd,zd,zd,bits_small zd,bits_small (by split<;>decide),⟨by split<;>decide,by split<;>decide⟩,?_⟩;refine take_loop (c:=c) _ sd 0 0 _ (by simp only[rngD,aF,List.length_range];split<;>decide) h0 h1 zd zd λsd' dr' x' g0 g1 g2=>?_;walk_at "w";obtain⟨r0,r1⟩:=fmod_rng (dr'.fdiv 64) hm;exact⟨zd,zd,hm0,_,back_own ai (back_d back0),h _ _ ⟨_,_,_,rfl,g0,g1⟩ r0 r1⟩
def fs__law_leaf:FS:=λls af=>∃(a:Addr)(xs:List D),ls=[.own a xs]/\StOk xs/\∀(t:Tr)(ys:List D),StOk ys->t.nodes=1->t.dep=0->TrOk t->af (.d (trD t)) [.own a ys]
def m__law_leaf:W Fl:=(wSeq (wIf (wTest (wBin opEq (wCallB fs__law_take 0 0 (aVar 0 (aVal (wC (.int 3)) aNil))) (wC (.int 0)))) (wRet (wTup (aVal (wC (.str "turned")) aNil))) wNext)
  (wRet (wTup (aVal (wC (.str "cut")) (aVal (wFrz (wCallB fs__law_take 0 0 (aVar 0 (aVal (wC (.int 12)) aNil)))) (aVal (wFrz (wCallB fs__law_take 0 0 (aVar 0 (aVal (wC (.int 12)) aNil)))) aNil))))))
theorem sat__law_leaf:∀ls af,ls.length=1->fs__law_leaf ls af->m__law_leaf (ls++List.replicate 0 .un) (okEnd ls af):=by
 rintro ls af - ⟨a,xs,rfl,hx,h⟩;unfold m__law_leaf;walk_at "w";refine⟨a,xs,3,rfl,hx,zd,zd,λr ys hy r0 r1=>⟨ys,rfl,?_⟩⟩;walk_at "w";by_cases e:r=0
 . rw[if_pos e];exact⟨zd,_,back_own (ys:=ys) zY back0,h .turned ys hy rfl rfl trivial⟩
 . rw[if_neg e];refine⟨a,ys,12,rfl,hy,zd,zd,λi zs hz i0 i1=>⟨zs,rfl,?_⟩⟩;walk_at "w";refine⟨a,zs,12,rfl,hz,zd,zd,λj ws hw j0 j1=>⟨ws,rfl,?_⟩⟩;walk_at "w";obtain⟨i,rfl⟩:=bF i0;obtain⟨j,rfl⟩:=bF j0;exact⟨zd,_,back_own (ys:=ws) zY back0,h (.cut (i,j)) ws hw rfl rfl ⟨zZ,zZ⟩⟩
def fs__law_tree:FS:=λls af=>∃ns:List Int,ls=[.d (.lst (ns.map .int)),.d (.int 20)]/\ns.length<=63/\∀t:Tr,TrOk t->t.dep<=20->t.nodes<=200->af (.d (trD t)) ls
def i__law_tree_0:W Fl:=(wSeq (wSet 2 (wBin opAdd (wPeek 2 (wSl2 (wVar 2) none (some (wUn opNeg (wC (.int 2)))))) (wLst (aVal (wTup (aVal (wC (.str "split")) (aVal (wBin opMod (wIsOwn 2 (wLenV 2) (wCallD opLen (aVal (wVar 2) aNil))) (wC (.int 20))) (aVal (wIsOwn 2 (wIxV 2 (wUn opNeg (wC (.int 2)))) (wBin opIx (wVar 2) (wUn opNeg (wC (.int 2))))) (aVal (wIsOwn 2 (wIxV 2 (wUn opNeg (wC (.int 1)))) (wBin opIx (wVar 2) (wUn opNeg (wC (.int 1))))) aNil))))) aNil))))
  (wSet 3 (wBin opAdd (wPeek 3 (wSl2 (wVar 3) none (some (wUn opNeg (wC (.int 2)))))) (wLst (aVal (wFrz (wBin opAdd (wC (.int 1)) (wCallD opMaxL (aVal (wFrz (wPeek 3 (wSl2 (wVar 3) (some (wUn opNeg (wC (.int 2)))) none))) aNil)))) aNil)))))
def b__law_tree_0:W Fl:=(wIf (wTest (wBin opLt (wCallD opMaxL (aVal (wFrz (wPeek 3 (wSl2 (wVar 3) (some (wUn opNeg (wC (.int 2)))) none))) aNil)) (wVar 1))) i__law_tree_0 (wSeq (wDrop (wPop 2))
  (wDrop (wPop 3))))
def c__law_tree_3:W Fl:=(wRet (wIsOwn 2 (wIxV 2 (wC (.int 0))) (wBin opIx (wVar 2) (wC (.int 0)))))
def i__law_tree_1:W Fl:=(wSeq (wSet 2 (wBin opAdd (wPeek 2 (wSl2 (wVar 2) none (some (wUn opNeg (wC (.int 2)))))) (wLst (aVal (wTup (aVal (wC (.str "split")) (aVal (wFrz (wCallB fs__law_take 0 5 (aVar 5 (aVal (wC (.int 20)) aNil)))) (aVal (wIsOwn 2 (wIxV 2 (wUn opNeg (wC (.int 2)))) (wBin opIx (wVar 2) (wUn opNeg (wC (.int 2))))) (aVal (wIsOwn 2 (wIxV 2 (wUn opNeg (wC (.int 1)))) (wBin opIx (wVar 2) (wUn opNeg (wC (.int 1))))) aNil))))) aNil))))
  (wSet 3 (wBin opAdd (wPeek 3 (wSl2 (wVar 3) none (some (wUn opNeg (wC (.int 2)))))) (wLst (aVal (wFrz (wBin opAdd (wC (.int 1)) (wCallD opMaxL (aVal (wFrz (wPeek 3 (wSl2 (wVar 3) (some (wUn opNeg (wC (.int 2)))) none))) aNil)))) aNil)))))
def c__law_tree_b2_1:W Fl:=(wIf (wAnd (wTest (wBin opEq (wVar 6) (wC (.int 0)))) (wAnd (wTest (wBin opGt (wIsOwn 2 (wLenV 2) (wCallD opLen (aVal (wVar 2) aNil))) (wC (.int 1)))) (wTest (wBin opLt (wCallD opMaxL (aVal (wFrz (wPeek 3 (wSl2 (wVar 3) (some (wUn opNeg (wC (.int 2)))) none))) aNil)) (wVar 1))))) i__law_tree_1 (wSeq (wDrop (wApp 2 (wCallB fs__law_leaf 0 5 (aVar 5 aNil))))
  (wDrop (wApp 3 (wC (.int 0))))))
def c__law_tree_b2_0:W Fl:=(wSeq (wSet 6 (wFrz (wCallB fs__law_take 0 5 (aVar 5 (aVal (wC (.int 3)) aNil)))))
  c__law_tree_b2_1)
def b__law_tree_1:W Fl:=(wSeq (wSet 5 (wCall fs__law_begun (aVal (wVar 0) (aVal (wVar 4) aNil))))
  c__law_tree_b2_0)
def c__law_tree_2:W Fl:=(wSeq (wWhile (wTest (wBin opGt (wIsOwn 2 (wLenV 2) (wCallD opLen (aVal (wVar 2) aNil))) (wC (.int 1)))) b__law_tree_0)
  c__law_tree_3)
def c__law_tree_1:W Fl:=(wSeq (wFor (wRng1 (wCallD opMax (aVal (wC (.int 1)) (aVal (wFrz (wCallD opMin (aVal (wFrz (wCallD opLen (aVal (wVar 0) aNil))) (aVal (wC (.int 63)) aNil)))) aNil)))) (tgName 4) b__law_tree_1)
  c__law_tree_2)
def c__law_tree_0:W Fl:=(wSeq (wSet 3 (wLst aNil))
  c__law_tree_1)
def m__law_tree:W Fl:=(wSeq (wSet 2 (wLst aNil))
  c__law_tree_0)
theorem nl_tr:∀t:Tr,noL (trD t)=true
 |.turned=>rfl
 |.cut c=>rfl
 | .split k a b=>by show noLs [D.str "split",.int (k:Int),trD a,trD b]=true;simp[noLs,noL,nl_tr a,nl_tr b]
theorem nls_all:∀{ds:List D},(∀d∈ds,noL d=true)->noLs ds=true
 |[],_=>rfl
 | d::ds,h=>by simp[noLs,h d zY,nls_all λe he=>h e (ag _ he)]
theorem nls_tr(ts:List Tr):noLs (ts.map trD)=true:=nls_all λd hd=>by obtain⟨t,_,rfl⟩:=List.mem_map.mp hd;exact nl_tr t
theorem nls_dp(ts:List Tr):noLs (ts.map depD)=true:=nls_all λd hd=>by obtain⟨t,_,rfl⟩:=List.mem_map.mp hd;rfl
theorem tr_two(us:List Tr)(p q:Tr):(us++[p,q]).map trD=us.map trD++[trD p,trD q]:=by simp
theorem dp_two(us:List Tr)(p q:Tr):(us++[p,q]).map depD=us.map depD++[depD p,depD q]:=by simp
theorem max_is{p q:Tr}{M:Int}(hM:M∈[(p.dep:Int),(q.dep:Int)])(ha:∀a,a∈[(p.dep:Int),(q.dep:Int)]->a<=M):M=((max p.dep q.dep:Nat):Int):=by have h1:=ha _ ai;have h2:=ha _ (ag _ ai);simp only[az,bh,or_false]at hM;rcases hM with rfl|rfl<;>omega
theorem lt_join{us:List Tr}{p q:Tr}{a b:Addr}{x0 x1:D}{x4 x5 x6:L}{m:Nat}{Q:Fl->Ev->Prop}(hs:TsOk m (us++[p,q]))(hm:m<=200)(hd:max p.dep q.dep<20)(f4:flatL x4=true)(f5:flatL x5=true)(f6:flatL x6=true)
  (h:∀a b k,k<20->Q .nx [.d x0,.d x1,.own a ((us++[Tr.split k p q]).map trD),.own b ((us++[Tr.split k p q]).map depD),x4,x5,x6]) :
  i__law_tree_0 [.d x0,.d x1,.own a ((us++[p,q]).map trD),.own b ((us++[p,q]).map depD),x4,x5,x6] Q:=by
 have n1:=nls_tr (us++[p,q]);have n2:=nls_dp (us++[p,q]);have hl:us.length+2<=m:=by have:=hs.sum;rw[aC]at this;simp only[aK,bq]at this;omega
 have e0:sizeLine=16777216:=by decide
 have h0:=Int.fmod_nonneg_of_pos ((us.length+2:Nat):Int) (show(0:Int)<20 by decide);have h2:=Int.fmod_lt_of_pos ((us.length+2:Nat):Int) (show(0:Int)<20 by decide);obtain⟨k,ek⟩:=bF h0;have hk:k<20:=by omega
 have nt:noLs (us.map trD++[trD (Tr.split k p q)])=true:=by have:=nls_tr (us++[Tr.split k p q]);rwa [bp]at this
 unfold i__law_tree_0;rw[tr_two]at n1 ⊢;rw[dp_two]at n2 ⊢;walk_at "w";have el:((us.map trD++[trD p,trD q]).length:Int).fmod 20=(k:Int):=by rw[show(us.map trD++[trD p,trD q]).length=us.length+2 by simp];exact ek
 rw[n2,f4,f5,f6];refine⟨rfl,λa1=>?_⟩;rw[cut_init,at_prev,at_last,el,cut_init,cut_two];refine⟨nls_tr us,zd,_,rfl,_,rfl,zd,zd,λa2=>⟨by rw[aF];omega,λa3=>?_⟩⟩;rw[show noLs (us.map trD++[D.tup [D.str (Str.ofString "split"),D.int (k:Int),trD p,trD q]])=true from nt];refine⟨rfl,λa4=>⟨nls_dp us,rfl,λa5=>⟨rfl,[(p.dep:Int),(q.dep:Int)],rfl,Nat.succ_pos _,λM hM ha=>?_⟩⟩⟩;rw[max_is hM ha];walk_at "w";refine⟨zd,λa6=>⟨zZ,λa7=>?_⟩⟩;have:=h a3 a7 k hk;rw[bp,bp]at this;have e:depD (Tr.split k p q)=.int (1+((max p.dep q.dep:Nat):Int)):=by show D.int ((max p.dep q.dep+1:Nat):Int)=_;rw[Int.natCast_add,Int.add_comm];rfl
 rw[List.map_singleton,List.map_singleton,e]at this;exact this
theorem lt_body{us:List Tr}{p q:Tr}{a b:Addr}{x0:D}{x4 x5 x6:L}{m:Nat}{Q:Fl->Ev->Prop}(hs:TsOk m (us++[p,q]))(hm:m<=200)(f4:flatL x4=true)(f5:flatL x5=true)(f6:flatL x6=true)
  (h:∀a b ts,TsOk m ts->ts.length=us.length+1->Q .nx [.d x0,.d (.int 20),.own a (ts.map trD),.own b (ts.map depD),x4,x5,x6]) :
  b__law_tree_0 [.d x0,.d (.int 20),.own a ((us++[p,q]).map trD),.own b ((us++[p,q]).map depD),x4,x5,x6] Q:=by
 have n1:=nls_tr (us++[p,q]);unfold b__law_tree_0;walk_at "w";rw[n1,f4,f5,f6];refine⟨rfl,λa1=>?_⟩;rw[dp_two,cut_two];refine⟨rfl,[(p.dep:Int),(q.dep:Int)],rfl,Nat.succ_pos _,λM hM ha=>?_⟩;rw[max_is hM ha];walk_at "w"
 show if((max p.dep q.dep:Nat):Int)<20 then _ else _
 by_cases c:max p.dep q.dep<20
 . rw[if_pos (by omega),<- dp_two];exact lt_join hs hm c f4 f5 f6 λa b k hk=>h a b _ (hs.join hk c) zY
 .
  rw[if_neg (by omega)];have e1:((us++[p,q]).map trD)[(us++[p,q]).length-1]?=some (trD q):=by rw[tr_two,show(us++[p,q]).length-1=us.length+1 by simp,aj zY,aF,show us.length+1-us.length=1 by omega];rfl
  have e2:(us.map depD++[depD p,depD q])[(us++[p,q]).length-1]?=some (depD q):=by rw[show(us++[p,q]).length-1=us.length+1 by simp,aj zY,aF,show us.length+1-us.length=1 by omega];rfl
  have e3:((us++[p,q]).map trD).dropLast=(us++[p]).map trD:=by
   rw[<- List.map_dropLast]
   congr 1
   rw[show us++[p,q]=(us++[p])++[q] by simp,List.dropLast_concat]
  have e4:(us.map depD++[depD p,depD q]).dropLast=(us++[p]).map depD:=by rw[show us.map depD++[depD p,depD q]=((us++[p]).map depD)++[depD q] by simp,List.dropLast_concat]
  rw[e3,e4];exact⟨_,e1,_,e2,h _ _ _ hs.pop zY⟩
theorem st_nl{xs:List D}(h:StOk xs):noLs xs=true:=by obtain⟨c,sd,b,rfl,_,_⟩:=h;rfl
theorem lt_join1{us:List Tr}{p q:Tr}{a b c:Addr}{x0 x1:D}{x4 x6:L}{xs:List D}{m:Nat}{Q:Fl->Ev->Prop}(hs:TsOk m (us++[p,q]))(hm:m<=200)(hd:max p.dep q.dep<20)(f4:flatL x4=true)(hx:StOk xs)(f6:flatL x6=true)
  (h:∀a b k ys,k<20->StOk ys->Q .nx [.d x0,.d x1,.own a ((us++[Tr.split k p q]).map trD),.own b ((us++[Tr.split k p q]).map depD),x4,.own c ys,x6]) :
  i__law_tree_1 [.d x0,.d x1,.own a ((us++[p,q]).map trD),.own b ((us++[p,q]).map depD),x4,.own c xs,x6] Q:=by
 have n2:=nls_dp (us++[p,q]);have hl:us.length+2<=m:=by have:=hs.sum;rw[aC]at this;simp only[aK,bq]at this;omega
 have e0:sizeLine=16777216:=by decide
 unfold i__law_tree_1;rw[tr_two];rw[dp_two]at n2 ⊢;walk_at "w";rw[n2,f4,st_nl hx,f6];refine⟨rfl,λa1=>?_⟩;rw[cut_init];refine⟨nls_tr us,c,xs,20,rfl,hx,zd,zd,λk ys hy k0 k1=>⟨ys,rfl,?_⟩⟩;walk_at "w";obtain⟨k,rfl⟩:=bF k0;have nt:noLs (us.map trD++[D.tup [D.str (Str.ofString "split"),D.int (k:Int),trD p,trD q]])=true:=by have:=nls_tr (us++[Tr.split k p q]);rwa [bp]at this
 refine⟨_,at_prev _ _ _,_,at_last _ _ _,zd,zd,λa2=>⟨zZ,λa3=>?_⟩⟩;rw[nt,st_nl hy];refine⟨rfl,λa4=>?_⟩;rw[cut_init,cut_two];refine⟨nls_dp us,rfl,λa5=>⟨rfl,[(p.dep:Int),(q.dep:Int)],rfl,Nat.succ_pos _,λM hM ha=>?_⟩⟩;rw[max_is hM ha];walk_at "w";refine⟨zd,λa6=>⟨zZ,λa7=>?_⟩⟩;have:=h a3 a7 k ys zZ hy;rw[bp,bp]at this;have e:depD (Tr.split k p q)=.int (1+((max p.dep q.dep:Nat):Int)):=by show D.int ((max p.dep q.dep+1:Nat):Int)=_;rw[Int.natCast_add,Int.add_comm];rfl
 rw[List.map_singleton,List.map_singleton,e]at this;exact this
def LtI(ns:List Int)(m:Nat)(Z:Ev):Prop:=∃a b ts x4 x5 x6,Z=[.d (.lst (ns.map .int)),.d (.int 20),.own a (ts.map trD),.own b (ts.map depD),x4,x5,x6]/\(m=0/\ts=[]∨TsOk m ts)/\flatL x4=true/\flatL x5=true/\flatL x6=true
theorem lt_leaf{ns:List Int}{ts:List Tr}{a b c:Addr}{x4 x6:L}{xs:List D}{m:Nat}{Q:Fl->Ev->Prop}(hs:m=0/\ts=[]∨TsOk m ts)(hm:m<=200)(f4:flatL x4=true)(hx:StOk xs)(f6:flatL x6=true)(h:∀Z,LtI ns (m+2) Z->Q .nx Z) :
  wSeq (wDrop (wApp 2 (wCallB fs__law_leaf 0 5 (aVar 5 aNil)))) (wDrop (wApp 3 (wC (.int 0)))) [.d (.lst (ns.map .int)),.d (.int 20),.own a (ts.map trD),.own b (ts.map depD),x4,.own c xs,x6] Q:=by
 have hl:ts.length<=m:=by
  rcases hs with⟨rfl,rfl⟩|hs
  . exact ao _
  . have:=hs.sum;omega
 have e0:sizeLine=16777216:=by decide
 walk_at "w";refine⟨c,xs,rfl,hx,λt ys hy t1 t2 ok=>⟨ys,rfl,?_⟩⟩;walk_at "w";refine⟨zZ,zZ,h _ ⟨a,b,ts++[t],x4,_,x6,?_,.inr (.add (hs.imp And.right id) t1 t2 ok),f4,(show flatL (.own c ys)=true from st_nl hy),f6⟩⟩;rw[bp,bp];simp only[List.map_singleton];rw[show depD t=.int 0 by unfold depD;rw[t2];rfl]
theorem lt_step{ns:List Int}{j:Nat}{Z:Ev}{Q:Fl->Ev->Prop}(hj:j<63)(I:LtI ns (2*j) Z)(h:∀Z',LtI ns (2*(j+1)) Z'->Q .nx Z'):(tgName 4) (.int (j:Int)) Z λZ1=>b__law_tree_1 Z1 Q:=by
 obtain⟨a,b,ts,x4,x5,x6,rfl,hs,f4,f5,f6⟩:=I;unfold b__law_tree_1;walk_at "w";refine⟨ns,(j:Int),rfl,zZ,zZ,λc xs hx=>?_⟩;walk_at "w";unfold c__law_tree_b2_0;walk_at "w";refine⟨c,xs,3,rfl,hx,zd,zd,λr ys hy r0 r1=>⟨ys,rfl,?_⟩⟩;walk_at "w";have leaf:=lt_leaf (ns:=ns) (a:=a) (b:=b) (c:=c) (x4:=.d (.int (j:Int))) (x6:=.d (.int r)) (Q:=Q) hs zZ rfl hy rfl h;unfold c__law_tree_b2_1
 revert leaf
 generalize wSeq (wDrop (wApp 2 (wCallB fs__law_leaf 0 5 (aVar 5 aNil)))) (wDrop (wApp 3 (wC (.int 0))))=LF;intro leaf;walk_at "w";by_cases c1:r=0
 .
  rw[if_pos c1];by_cases c2:1<ts.length
  .
   rw[if_pos (by omega)];obtain⟨us,p,q,rfl⟩:=two_last c2
   have hs':TsOk (2*j) (us++[p,q]):=by
    rcases hs with⟨_,e⟩|hs
    . simp at e
    . exact hs
   rw[nls_tr,st_nl hy];refine⟨rfl,λa1=>?_⟩;rw[dp_two,cut_two];refine⟨rfl,[(p.dep:Int),(q.dep:Int)],rfl,Nat.succ_pos _,λM hM ha=>?_⟩;rw[max_is hM ha];walk_at "w"
   show if((max p.dep q.dep:Nat):Int)<20 then _ else _
   rw[<- dp_two];by_cases c:max p.dep q.dep<20
   . rw[if_pos (by omega)];exact lt_join1 hs' zZ c rfl hy rfl λa b k zs hk hz=>h _ ⟨_,_,_,_,_,_,rfl,.inr ((hs'.join hk c).mono zZ),rfl,(show flatL (.own _ zs)=true from st_nl hz),rfl⟩
   . rw[if_neg (by omega)];exact leaf
  . rw[if_neg (by omega)];exact leaf
 . rw[if_neg c1];exact leaf
theorem lt_while{ns:List Int}{Z:Ev}{Q:Fl->Ev->Prop}(h:∃a b ts x4 x5 x6,Z=[.d (.lst (ns.map .int)),.d (.int 20),.own a (ts.map trD),.own b (ts.map depD),x4,x5,x6]/\TsOk 126 ts/\flatL x4=true/\flatL x5=true/\flatL x6=true)
  (q:∀t:Tr,TrOk t->t.dep<=20->t.nodes<=200->∀ls,Q (.rt (.d (trD t))) (.d (.lst (ns.map .int))::.d (.int 20)::ls)):c__law_tree_2 Z Q:=by
 unfold c__law_tree_2;walk_at "w";refine⟨λn Z=>∃a b ts x4 x5 x6,Z=[.d (.lst (ns.map .int)),.d (.int 20),.own a (ts.map trD),.own b (ts.map depD),x4,x5,x6]/\(TsOk 126 ts/\ts.length=n)/\flatL x4=true/\flatL x5=true/\flatL x6=true,?_,?_⟩
 . obtain⟨a,b,ts,x4,x5,x6,e,hs,hf⟩:=h;exact⟨ts.length,a,b,ts,x4,x5,x6,e,⟨hs,rfl⟩,hf⟩
 .
  rintro n Z ⟨a,b,ts,x4,x5,x6,rfl,⟨hs,rfl⟩,f4,f5,f6⟩;walk_at "w";by_cases c:1<ts.length
  . rw[if_pos (by omega)];obtain⟨us,p,q,rfl⟩:=two_last c;refine lt_body hs zd f4 f5 f6 λa' b' vs hv hl=>?_;exact⟨_,by rw[aC];simp only[aK,bq];omega,a',b',vs,x4,x5,x6,rfl,⟨hv,hl⟩,f4,f5,f6⟩
  . rw[if_neg (by omega)];obtain⟨t,rfl⟩:∃t,ts=[t]:=List.length_eq_one_iff.mp (by have:=hs.one;omega);have ht:=hs.all t zY;have hn:=hs.nodes (t:=t) zY;unfold c__law_tree_3;walk_at "w";exact q t ht.1 ht.2 zZ _
theorem sat__law_tree:∀ls af,ls.length=2->fs__law_tree ls af->m__law_tree (ls++List.replicate 5 .un) (okEnd ls af):=by
 rintro ls af - ⟨ns,rfl,hl,h⟩;unfold m__law_tree;walk_at "w";refine⟨zd,λa0=>?_⟩;unfold c__law_tree_0;walk_at "w";refine⟨zd,λb0=>?_⟩;unfold c__law_tree_1;walk_at "w"
 have hn:∃n:Nat,(if(if(63:Int)<(ns.length:Int)then(63:Int)else(ns.length:Int)) > 1 then if(63:Int)<(ns.length:Int)then(63:Int)else(ns.length:Int)else 1)=(n:Int)/\0<n/\n<=63:=by
  by_cases c:1<ns.length
  . exact⟨ns.length,by rw[if_neg (show ¬(63:Int)<(ns.length:Int) by omega),if_pos (show(ns.length:Int) > 1 by omega)],zZ,hl⟩
  . exact⟨1,by rw[if_neg (show ¬(63:Int)<(ns.length:Int) by omega),if_neg (show ¬(ns.length:Int) > 1 by omega)];rfl,zd,zd⟩
 obtain⟨n,en,n0,n1⟩:=hn;rw[en];refine⟨⟨zZ,zZ⟩,?_⟩;rw[Int.toNat_natCast];refine forR0_inv n (λj Z=>LtI ns (2*j) Z) _ ⟨a0,b0,[],.un,.un,.un,rfl,.inl ⟨rfl,rfl⟩,rfl,rfl,rfl⟩ ?_ ?_
 . intro j Z hj I Q h1 _ _ _;exact lt_step zZ I h1
 .
  rintro Z ⟨a,b,ts,x4,x5,x6,rfl,hs,f4,f5,f6⟩;have hs:TsOk (2*n) ts:=hs.resolve_left λz=>by omega
  refine lt_while ⟨a,b,ts,x4,x5,x6,rfl,hs.mono zZ,f4,f5,f6⟩ λt ok hd hn ls=>?_;exact⟨_,back_d (back_d back0),h t ok hd hn⟩
def fsr__law_same(n:Nat):FS:=λls af=>∃t:Tr,ls=[.d (trD t),.d (trD t)]/\t.dep<n/\t.dep<=20/\af (.d (.bl true)) ls
theorem no__law_same(ls:List L)(af:L->List L->Prop):¬fsr__law_same 0 ls af:=by rintro⟨t,_,h,_⟩;exact absurd h (Nat.not_lt_zero _)
abbrev fs__law_same:FS:=fsr__law_same 48
def b__law_same_0(self:FS):W L:=(wUn (opIsT "bool") (wVar 0))
def c__law_same_1(self:FS):W Fl:=(wRet (wOrV (wBin opNe (wBin opIx (wVar 1) (wC (.int 0))) (wC (.str "split"))) (wAndV (wCall self (aVal (wBin opIx (wVar 0) (wC (.int 2))) (aVal (wBin opIx (wVar 1) (wC (.int 2))) aNil))) (wCall self (aVal (wBin opIx (wVar 0) (wC (.int 3))) (aVal (wBin opIx (wVar 1) (wC (.int 3))) aNil))))))
def c__law_same_0(self:FS):W Fl:=(wSeq (wIf (wTest (wBin (opInF false) (wC (.bl true)) (wComp 1 [] (wSrc (wVar 0)) (tgName 0) wTrue (b__law_same_0 self)))) (wRet (wC (.bl false))) wNext)
  (c__law_same_1 self))
def m__law_same(self:FS):W Fl:=(wSeq (wIf (wOr (wNot (wTest (wUn (opIsT "tuple") (wVar 0)))) (wTest (wBin opNe (wVar 0) (wVar 1)))) (wRet (wC (.bl false))) wNext)
  (c__law_same_0 self))
theorem same_0{n:Nat}{xs:List D}{x1:L}{Q:Fl->Ev->Prop}(hs:xs.length<=sizeLine) (hb:∀ x∈xs,isTy "bool" x=false) (q:c__law_same_1 (fsr__law_same n) [.d (.tup xs),x1] Q):c__law_same_0 (fsr__law_same n) [.d (.tup xs),x1] Q:=by
 unfold c__law_same_0;walk_at "w";refine⟨hs,?_⟩;have e:xs=xs.map id:=(List.map_id xs).symm;rw[e];refine comp_map (enc:=id) (h:=λ_=>D.bl false) xs [] _ (λx hx R r=>?_) λl' a=>?_
 . unfold b__law_same_0;walk_at "w";rw[show isTy "bool" (id x)=false from hb x hx];exact r
 .
  rw[<- e];refine⟨rfl,by rw[List.nil_append,List.all_map];exact bb.mpr λ_ _=>rfl,?_⟩
  rw[if_neg (by
   rw[List.nil_append];unfold inF;rw[List.any_map,Bool.not_eq_true,List.any_eq_false]
   exact λ_ _=>by show ¬eqF (D.bl false) (D.bl true)=true;decide)]
  exact q
theorem sat__law_same:∀n ls af,ls.length=2->fsr__law_same (n+1) ls af->m__law_same (fsr__law_same n) (ls++List.replicate 0 .un) (okEnd ls af):=by
 rintro n ls af - ⟨t,rfl,hd,h20,h⟩;have ok:=okD_tr t;have sh:=shape_ok ok zZ;unfold m__law_same
 cases t with
 | turned =>
  unfold trD at *;walk_at "w";refine⟨sh,sh,?_⟩;rw[if_neg (by rw[eqD_refl ok];decide)];refine same_0 zd (by intro x hx;rw[aP.mp hx];rfl) ?_;unfold c__law_same_1;walk_at "w";refine⟨shT,shS,?_⟩;rw[if_pos (by decide +kernel)];exact⟨_,back_d (back_d back0),h⟩
 | cut c =>
  unfold trD at *;walk_at "w";refine⟨sh,sh,?_⟩;rw[if_neg (by rw[eqD_refl ok];decide)]
  refine same_0 (by show 3<=_;decide) (by
   intro x hx;simp only[az,bh,or_false]at hx
   rcases hx with rfl|rfl|rfl<;>rfl) ?_
  unfold c__law_same_1;walk_at "w";refine⟨shC,shS,?_⟩;rw[if_pos (by decide +kernel)];exact⟨_,back_d (back_d back0),h⟩
 | split k a b =>
  unfold trD at *;walk_at "w";refine⟨sh,sh,?_⟩;rw[if_neg (by rw[eqD_refl ok];decide)]
  refine same_0 (by show 4<=_;decide) (by
   intro x hx;simp only[az,bh,or_false]at hx;rcases hx with rfl|rfl|rfl|rfl
   . rfl
   . rfl
   . cases a<;>rfl
   .
    cases b<;>rfl) ?_
  unfold c__law_same_1;walk_at "w";have hd:max a.dep b.dep+1<n+1:=hd;have h20:max a.dep b.dep+1<=20:=h20;refine⟨shS,shS,?_⟩;rw[if_neg (by simp)];refine⟨a,rfl,zZ,zZ,?_⟩;walk_at "w";refine⟨b,rfl,zZ,zZ,?_⟩;exact⟨_,back_d (back_d back0),h⟩
def fsr__law_written(n:Nat):FS:=λls af=>∃t:Tr,ls=[.d (trD t)]/\TrOk t/\t.dep<n/\t.nodes<=1000/\af (.d (.str (trS t))) ls
theorem no__law_written(ls:List L)(af:L->List L->Prop):¬fsr__law_written 0 ls af:=by rintro⟨t,_,_,h,_⟩;exact absurd h (Nat.not_lt_zero _)
abbrev fs__law_written:FS:=fsr__law_written 48
def c__law_written_2(self:FS):W Fl:=(wRet (wBin opAdd (wBin opAdd (wBin opAdd (wBin opAdd (wC (.str "split ")) (wCallD opStrI (aVal (wBin opIx (wVar 0) (wC (.int 1))) aNil))) (wC (.str " ["))) (wVar 1)) (wC (.str "]"))))
def c__law_written_1(self:FS):W Fl:=(wSeq (wSet 1 (wFrz (wBin opAdd (wBin opAdd (wCall self (aVal (wBin opIx (wVar 0) (wC (.int 2))) aNil)) (wC (.str " | "))) (wCall self (aVal (wBin opIx (wVar 0) (wC (.int 3))) aNil)))))
  (c__law_written_2 self))
def c__law_written_0(self:FS):W Fl:=(wSeq (wIf (wTest (wBin opEq (wBin opIx (wVar 0) (wC (.int 0))) (wC (.str "cut")))) (wRet (wBin opAdd (wBin opAdd (wBin opAdd (wC (.str "cut ")) (wCallD opStrI (aVal (wBin opIx (wVar 0) (wC (.int 1))) aNil))) (wC (.str " "))) (wCallD opStrI (aVal (wBin opIx (wVar 0) (wC (.int 2))) aNil)))) wNext)
  (c__law_written_1 self))
def m__law_written(self:FS):W Fl:=(wSeq (wIf (wTest (wBin opEq (wBin opIx (wVar 0) (wC (.int 0))) (wC (.str "turned")))) (wRet (wC (.str "turned"))) wNext)
  (c__law_written_0 self))
theorem app_len{x y:Str}:(x++y).length=x.length+y.length:=strLen_append x y
theorem neCT:¬ Str.ofString "cut"=Str.ofString "turned":=by decide +kernel
theorem neST:¬ Str.ofString "split"=Str.ofString "turned":=by decide +kernel
theorem neSC:¬ Str.ofString "split"=Str.ofString "cut":=by decide +kernel
theorem wr_cut(c:Nat×Nat):Str.ofString "cut "++numS (c.1:Int)++Str.ofString " "++numS (c.2:Int)=trS (.cut c):=trS_is (by
 have e:(Str.ofString "cut ").cps.toList=cC++[32]:=by decide +kernel
 simp only[app_cps,e,eB,num_pos]
 simp[trL])
theorem wr_split{k:Nat}{a b:Tr}:Str.ofString "split "++numS (k:Int)++Str.ofString " ["++(trS a++Str.ofString " | "++trS b)++Str.ofString "]"=trS (.split k a b):=trS_is (by
 have e:(Str.ofString "split ").cps.toList=cS++[32]:=by decide +kernel
 simp only[app_cps,e,eO,eBar,eE,trS_cps,num_pos]
 simp[trL])
theorem sat__law_written:∀n ls af,ls.length=1->fsr__law_written (n+1) ls af->m__law_written (fsr__law_written n) (ls++List.replicate 1 .un) (okEnd ls af):=by
 rintro n ls af - ⟨t,rfl,ok,hd,hn,h⟩;have e0:sizeLine=16777216:=by decide
 have l1:(Str.ofString "split ").length=6:=by decide +kernel
 have l0:(Str.ofString "cut ").length=4:=by decide +kernel
 have l2:(Str.ofString " ").length=1:=by decide +kernel
 have l3:(Str.ofString " [").length=2:=by decide +kernel
 have l4:(Str.ofString " | ").length=3:=by decide +kernel
 have l5:(Str.ofString "]").length=1:=by decide +kernel
 unfold m__law_written
 cases t with
 | turned =>
  unfold trD;walk_at "w";rw[trS_turned]at h;exact⟨shT,shT,_,back_d back0,h⟩
 | cut c =>
  have k1:=ok.1;have k2:=ok.2;have n1:=numS_len (k:=c.1) zZ;have n2:=numS_len (k:=c.2) zZ;unfold trD;walk_at "w";refine⟨shC,shT,?_⟩;rw[if_neg neCT];unfold c__law_written_0;walk_at "w";refine⟨shC,shC,log_sm zZ,?_⟩;rw[show Str.ofString (toString (c.1:Int))=numS (c.1:Int)from rfl];rw[l0,l2];simp only[app_len,l0,l2];refine⟨zZ,zZ,log_sm zZ,?_⟩;rw[show Str.ofString (toString (c.2:Int))=numS (c.2:Int)from rfl,wr_cut];exact⟨zZ,_,back_d back0,h⟩
 | split k a b =>
  obtain⟨hk,ha,hb⟩:=ok;have hd:max a.dep b.dep+1<n+1:=hd;have hn:a.nodes+b.nodes+1<=1000:=hn;have la:=(trS_as ha).len;have lb:=(trS_as hb).len;have n1:=numS_len (k:=k) zZ;unfold trD;walk_at "w";refine⟨shS,shT,?_⟩;rw[if_neg neST];unfold c__law_written_0;walk_at "w";refine⟨shS,shC,?_⟩;rw[if_neg neSC];unfold c__law_written_1;walk_at "w";refine⟨a,rfl,ha,zZ,zZ,?_⟩;walk_at "w";refine⟨zZ,b,rfl,hb,zZ,zZ,?_⟩;walk_at "w";simp only[app_len,l4];refine⟨zZ,?_⟩;unfold c__law_written_2;walk_at "w";rw[show Str.ofString (toString (k:Int))=numS (k:Int)from rfl];simp only[app_len,l1,l3,l4,l5];refine⟨log_sm hk,zZ,zZ,zZ,zZ,?_⟩;rw[wr_split];exact⟨_,back_d back0,h⟩
def fs__law_right:FS:=λls af=>∃t:Tr,ls=[.d (trD t)]/\TrOk t/\t.dep<=20/\t.nodes<=1000/\af (.d (.bl true)) ls
def c__law_right_0:W Fl:=(wRet (wAndV (wUn (opIsT "str") (wVar 1)) (wAndV (wBin opEq (wVar 1) (wCall fs__law_written (aVal (wVar 0) aNil))) (wCall fs__law_same (aVal (wFrz (wCall fs_read_tree (aVal (wVar 1) aNil))) (aVal (wVar 0) aNil))))))
def m__law_right:W Fl:=(wSeq (wSet 1 (wFrz (wCall fs_shown_tree (aVal (wVar 0) aNil))))
  c__law_right_0)
theorem sat__law_right:∀ls af,ls.length=1->fs__law_right ls af->m__law_right (ls++List.replicate 1 .un) (okEnd ls af):=by rintro ls af - ⟨t,rfl,ok,hd,hn,h⟩;have ax:=(trS_as ok).mono (m:=14000) zZ;unfold m__law_right;walk_at "w";refine⟨t,rfl,ok,zZ,hn,?_⟩;walk_at "w";unfold c__law_right_0;walk_at "w";refine⟨t,rfl,ok,zZ,hn,?_⟩;walk_at "w";refine⟨sh_as ax,sh_as ax,t,rfl,ok,hd,hn,?_⟩;walk_at "w";exact⟨t,rfl,zZ,hd,_,back_d back0,h⟩
def fs_law:FS:=λls af=>∃ns:List Int,ls=[.d (.lst (ns.map .int))]/\ns.length<=63/\af (.d (.bl true)) ls
theorem law_holds{ns:List Int}(hl:ns.length<=63):fs_law [.d (.lst (ns.map .int))] (λr _=>r=.d (.bl true)):=⟨ns,rfl,hl,rfl⟩
def b_law_0:W Fl:=(wSet 4 (wTup (aVal (wC (.str "split")) (aVal (wFrz (wBin opAdd (wC (.int 3)) (wVar 3))) (aVal (wVar 4) (aVal (wVar 4) aNil))))))
def c_law_6:W Fl:=(wRet (wAndV (wCall fs__law_right (aVal (wVar 1) aNil)) (wAndV (wCall fs__law_right (aVal (wVar 2) aNil)) (wCall fs__law_right (aVal (wVar 4) aNil)))))
def c_law_5:W Fl:=(wSeq (wFor (wRng1 (wC (.int 8))) (tgName 3) b_law_0)
  c_law_6)
def b_law_1:W Fl:=(wSet 2 (wBin opIx (wLst (aVal (wTup (aVal (wC (.str "split")) (aVal (wVar 3) (aVal (wVar 2) (aVal (wTup (aVal (wC (.str "cut")) (aVal (wC (.int 0)) (aVal (wC (.int 11)) aNil)))) aNil))))) (aVal (wTup (aVal (wC (.str "split")) (aVal (wVar 3) (aVal (wTup (aVal (wC (.str "cut")) (aVal (wC (.int 11)) (aVal (wC (.int 0)) aNil)))) (aVal (wVar 2) aNil))))) aNil))) (wBin opMod (wBin opAdd (wCallD opLen (aVal (wVar 0) aNil)) (wVar 3)) (wC (.int 2)))))
def c_law_4:W Fl:=(wSeq (wSet 4 (wTup (aVal (wC (.str "turned")) aNil)))
  c_law_5)
def c_law_3:W Fl:=(wSeq (wFor (wRng1 (wC (.int 20))) (tgName 3) b_law_1)
  c_law_4)
def c_law_b3_0:W Fl:=(wSet 1 (wBin opIx (wVar 1) (wC (.int 3))))
def b_law_2:W Fl:=(wSeq (wIf (wOr (wNot (wTest (wCall fs__law_right (aVal (wBin opIx (wVar 1) (wC (.int 2))) aNil)))) (wTest (wBin opNe (wCallD opLen (aVal (wVar 1) aNil)) (wC (.int 4))))) (wRet (wC (.bl false))) wNext)
  c_law_b3_0)
def c_law_2:W Fl:=(wSeq (wSet 2 (wTup (aVal (wC (.str "turned")) aNil)))
  c_law_3)
def c_law_1:W Fl:=(wSeq (wWhile (wTest (wBin opEq (wBin opIx (wVar 1) (wC (.int 0))) (wC (.str "split")))) b_law_2)
  c_law_2)
def c_law_0:W Fl:=(wSeq (wIf (wNot (wTest (wCall fs__law_right (aVal (wVar 1) aNil)))) (wRet (wC (.bl false))) wNext)
  c_law_1)
def m_law:W Fl:=(wSeq (wSet 1 (wFrz (wCall fs__law_tree (aVal (wVar 0) (aVal (wC (.int 20)) aNil)))))
  c_law_0)
def chT:Nat->Tr->Prop:=λn t=>TrOk t/\t.dep<=n/\t.nodes<=1+2*n
def wiT:Nat->Tr->Prop:=λn t=>TrOk t/\t.dep<=n/\t.nodes+1<=2^(n+1)
theorem law_deep{ns:List Int}{t:Tr}{x3 x4:L}{j:Nat}{Q:Fl->Ev->Prop}{x1:L}(hl:ns.length<=63)(hj:j<20)(ht:chT j t)(h:∀t',chT (j+1) t'->Q .nx [.d (.lst (ns.map .int)),x1,.d (trD t'),.d (.int (j:Int)),x4]) :
  b_law_1 [.d (.lst (ns.map .int)),x1,.d (trD t),.d (.int (j:Int)),x4] Q:=by
 obtain⟨ok,hd,hn⟩:=ht;unfold b_law_1;walk_at "w";refine⟨zd,zd,zd,zd,zd,λa0=>⟨zd,?_⟩⟩;have h0:=Int.fmod_nonneg_of_pos ((ns.length:Int)+(j:Int)) (show(0:Int)<2 by decide);have h2:=Int.fmod_lt_of_pos ((ns.length:Int)+(j:Int)) (show(0:Int)<2 by decide);generalize ((ns.length:Int)+(j:Int)).fmod 2=r at h0 h2;rcases(by omega:r=0∨r=1)with rfl|rfl
 .
  refine⟨_,rfl,h (.split j t (.cut (0,11))) ⟨⟨hj,ok,zd,zd⟩,?_,?_⟩⟩
  . show max t.dep 0+1<=j+1;omega
  . show t.nodes+1+1<=1+2*(j+1);omega
 .
  refine⟨_,rfl,h (.split j (.cut (11,0)) t) ⟨⟨hj,⟨zd,zd⟩,ok⟩,?_,?_⟩⟩
  . show max 0 t.dep+1<=j+1;omega
  . show 1+t.nodes+1<=1+2*(j+1);omega
theorem law_wide{x0 x1 x2:L}{t:Tr}{j:Nat}{Q:Fl->Ev->Prop}(hj:j<8)(ht:wiT j t)(h:∀t',wiT (j+1) t'->Q .nx [x0,x1,x2,.d (.int (j:Int)),.d (trD t')]) :
  b_law_0 [x0,x1,x2,.d (.int (j:Int)),.d (trD t)] Q:=by
 obtain⟨ok,hd,hn⟩:=ht;unfold b_law_0;walk_at "w";refine⟨zd,?_⟩;have:=h (.split (3+j) t t) ⟨⟨zZ,ok,ok⟩,by show max t.dep t.dep+1<=j+1;omega,by show t.nodes+t.nodes+1+1<=2^(j+1+1);rw[Nat.pow_succ];omega⟩;have e:trD (.split (3+j) t t)=D.tup [D.str (Str.ofString "split"),D.int (3+(j:Int)),trD t,trD t]:=by show D.tup [D.str (Str.ofString "split"),D.int ((3+j:Nat):Int),trD t,trD t]=_;rw[Int.natCast_add];rfl
 rw[e]at this;exact this
def LwJ(ns:List Int)(n:Nat)(Z:Ev):Prop:=∃t:Tr,Z=[.d (.lst (ns.map .int)),.d (trD t),.un,.un,.un]/\(TrOk t/\t.dep<=20/\t.nodes<=200)/\t.dep=n
theorem law_down{ns:List Int}{t:Tr}{Q:Fl->Ev->Prop}(ok:TrOk t)(hd:t.dep<=20)(hn:t.nodes<=200)(h:∀t,TrOk t->t.dep<=20->t.nodes<=200->c_law_2 [.d (.lst (ns.map .int)),.d (trD t),.un,.un,.un] Q):c_law_1 [.d (.lst (ns.map .int)),.d (trD t),.un,.un,.un] Q:=by
 unfold c_law_1;walk_at "w";refine⟨LwJ ns,⟨t.dep,t,rfl,⟨ok,hd,hn⟩,rfl⟩,?_⟩;rintro n Z ⟨t,rfl,⟨ok,hd,hn⟩,rfl⟩;have q:=h t ok hd hn
 cases t with
 | turned =>
  unfold trD at *;walk_at "w";refine⟨shT,shS,?_⟩;rw[if_neg (by decide +kernel)];exact q
 | cut c =>
  unfold trD at *;walk_at "w";refine⟨shC,shS,?_⟩;rw[if_neg (by decide +kernel)];exact q
 | split k a b =>
  obtain⟨hk,ha,hb⟩:=ok;have hd:max a.dep b.dep+1<=20:=hd;have hn:a.nodes+b.nodes+1<=200:=hn;unfold trD;walk_at "w";refine⟨shS,shS,?_⟩;unfold b_law_2;walk_at "w";refine⟨a,rfl,ha,zZ,zZ,?_⟩;walk_at "w";exact⟨trD b,rfl,b.dep,by show b.dep<max a.dep b.dep+1;omega,b,rfl,⟨hb,zZ,zZ⟩,rfl⟩
theorem sat_law:∀ls af,ls.length=1->fs_law ls af->m_law (ls++List.replicate 4 .un) (okEnd ls af):=by
 rintro ls af - ⟨ns,rfl,hl,h⟩;unfold m_law;walk_at "w";refine⟨ns,rfl,hl,λt ok hd hn=>?_⟩;walk_at "w";unfold c_law_0;walk_at "w";refine⟨t,rfl,ok,hd,zZ,?_⟩;walk_at "w";refine law_down ok hd hn λt ok hd hn=>?_;unfold c_law_2;walk_at "w";refine⟨zd,?_⟩;unfold c_law_3;walk_at "w";refine⟨⟨zd,zd⟩,?_⟩;refine forR0_inv _ (λj Z=>∃t' x3,chT j t'/\Z=[.d (.lst (ns.map .int)),.d (trD t),.d (trD t'),x3,.un]) _ ⟨.turned,_,⟨trivial,ao _,ao _⟩,rfl⟩ ?_ ?_
 . rintro j Z hj ⟨t',x3,ht,rfl⟩ Q h1 _ _ _;walk_at "w";exact law_deep (x3:=x3) hl hj ht λt'' h2=>h1 _ ⟨t'',_,h2,rfl⟩
 .
  rintro Z ⟨t2,x3,⟨ok2,hd2,hn2⟩,rfl⟩;unfold c_law_4;walk_at "w";refine⟨zd,?_⟩;unfold c_law_5;walk_at "w";refine⟨⟨zd,zd⟩,?_⟩;refine forR0_inv _ (λj Z=>∃t' x3,wiT j t'/\Z=[.d (.lst (ns.map .int)),.d (trD t),.d (trD t2),x3,.d (trD t')]) _ ⟨.turned,_,⟨trivial,ao _,ao _⟩,rfl⟩ ?_ ?_
  . rintro j Z hj ⟨t',x3,ht,rfl⟩ Q h1 _ _ _;walk_at "w";exact law_wide hj ht λt'' h2=>h1 _ ⟨t'',_,h2,rfl⟩
  . rintro Z ⟨t3,x3,⟨ok3,hd3,hn3⟩,rfl⟩;have hn3:t3.nodes+1<=512:=hn3;have hd3:t3.dep<=8:=hd3;have hd2:t2.dep<=20:=hd2;have hn2:t2.nodes<=41:=hn2;unfold c_law_6;walk_at "w";refine⟨t,rfl,ok,hd,zZ,?_⟩;walk_at "w";refine⟨t2,rfl,ok2,hd2,zZ,?_⟩;walk_at "w";exact⟨t3,rfl,ok3,zZ,zZ,_,back_d back0,h⟩
structure Tx (K:PySem.W.Frag) (mg:Str->Option Value) (ad:Nat->Addr) (fd:Nat->FuncData):Prop where
 x_is_whole:FX K mg "is_whole" s_is_whole (ad 0) (fd 0) ["thing"]
 x_is_number_below:FX K mg "is_number_below" s_is_number_below (ad 1) (fd 1) ["thing","many"]
 x_whole_in:FX K mg "whole_in" s_whole_in (ad 2) (fd 2) ["text"]
 x_shown_tree:FX K mg "shown_tree" s_shown_tree (ad 3) (fd 3) ["tree"]
 x_cut_in:FX K mg "cut_in" s_cut_in (ad 4) (fd 4) ["words"]
 x_bar_in:FX K mg "bar_in" s_bar_in (ad 5) (fd 5) ["text"]
 x_split_in:FX K mg "split_in" s_split_in (ad 6) (fd 6) ["text","splits"]
 x_tree_in:FX K mg "tree_in" s_tree_in (ad 7) (fd 7) ["text","splits"]
 x_read_tree:FX K mg "read_tree" s_read_tree (ad 8) (fd 8) ["text"]
 x__law_begun:FX K mg "_law_begun" s__law_begun (ad 9) (fd 9) ["_law_script","_law_k"]
 x__law_take:FX K mg "_law_take" s__law_take (ad 10) (fd 10) ["_law_state","_law_many"]
 x__law_leaf:FX K mg "_law_leaf" s__law_leaf (ad 11) (fd 11) ["_law_state"]
 x__law_tree:FX K mg "_law_tree" s__law_tree (ad 12) (fd 12) ["_law_script","_law_most"]
 x__law_same:FX K mg "_law_same" s__law_same (ad 13) (fd 13) ["_law_told","_law_due"]
 x__law_written:FX K mg "_law_written" s__law_written (ad 14) (fd 14) ["_law_tree_here"]
 x__law_right:FX K mg "_law_right" s__law_right (ad 15) (fd 15) ["_law_tree_here"]
 x_law:FX K mg "law" s_law (ad 16) (fd 16) ["_law_script"]
 z_all:mg "all"=none
 z_bool:mg "bool"=none
 z_enumerate:mg "enumerate"=none
 z_int:mg "int"=none
 z_isinstance:mg "isinstance"=none
 z_len:mg "len"=none
 z_max:mg "max"=none
 z_min:mg "min"=none
 z_range:mg "range"=none
 z_str:mg "str"=none
 z_tuple:mg "tuple"=none
 g_BAR:GlobT K mg "BAR" (.str " | ")
 g_CUT:GlobT K mg "CUT" (.str "cut")
 g_MOST_ASKS:GlobT K mg "MOST_ASKS" (.int 20)
 g_MOST_FIGURES:GlobT K mg "MOST_FIGURES" (.int 60)
 g_MOST_SPLITS:GlobT K mg "MOST_SPLITS" (.int 20)
 g_MOST_TIES:GlobT K mg "MOST_TIES" (.int 12)
 g_SPLIT:GlobT K mg "SPLIT" (.str "split")
 g_TURNED:GlobT K mg "TURNED" (.str "turned")
section
variable{P:Program}{w:World}{K:PySem.W.Frag}{mg:Str->Option Value}{base:Heap}{ad:Nat->Addr}{fd:Nat->FuncData}
theorem sc_is_whole:FnScope N_is_whole ["thing"] (defScope s_is_whole):=⟨rfl,rfl,rfl,zb,rfl,zb,zb⟩
theorem ok_is_whole(T:Tx K mg ad fd):FnOk P w K mg base CX0 1 (ad 0) (fd 0) ["thing"] (spF K 1 fs_is_whole) :=
 fn_ok (k:=0) T.x_is_whole.f sc_is_whole m_is_whole (λcdv A outer s H E hr=>(pms_one (pm_ret (pl_and (pl_isT kit_int rfl T.z_isinstance rfl T.z_int zb (pl_var 0)) (pl_one (pl_not (pl_isT kit_bool rfl T.z_isinstance rfl T.z_bool zb (pl_var 0))))))))
  sat_is_whole
theorem sc_is_number_below:FnScope N_is_number_below ["thing","many"] (defScope s_is_number_below):=⟨rfl,rfl,rfl,zb,rfl,zb,zb⟩
theorem ok_is_number_below(T:Tx K mg ad fd):FnOk P w K mg base CX0 2 (ad 1) (fd 1) ["thing","many"] (spF K 2 fs_is_number_below) :=
 fn_ok (k:=1) T.x_is_number_below.f sc_is_number_below m_is_number_below (λcdv A outer s H E hr=>(pms_one (pm_ret (pl_and (pl_cx (ok_is_whole T) T.x_is_whole hr (pal_val (pl_var 0) pal_nil)) (pl_one (pl_chain ci_le ci_lt pl_int (pl_var 0) (pl_var 1)))))))
  sat_is_number_below
theorem sc_whole_in:FnScope N_whole_in ["text"] (defScope s_whole_in):=⟨rfl,rfl,rfl,zb,rfl,zb,zb⟩
theorem ok_whole_in(T:Tx K mg ad fd):FnOk P w K mg base CX0 1 (ad 2) (fd 2) ["text"] (spF K 1 fs_whole_in) :=
 fn_ok (k:=0) T.x_whole_in.f sc_whole_in m_whole_in (λcdv A outer s H E hr=>(pms_cons (pm_set (i:=1) sc_whole_in.nd rfl zX (pl_frz (pl_ifE (pb_val (pl_starts (pl_var 0))) (pl_slice2 (pl_var 0) pl_int trivial) (pl_var 0))))
  (pms_cons (pm_if (PBw.pb (pbw_or (pb_not (pb_chain ci_le ci_le pl_int (pl_callD cd_len rfl T.z_len zb (pal_val (pl_var 1) pal_nil)) (pl_G T.g_MOST_FIGURES rfl))) (pbw_or1 (pb_not (pb_val (pl_callD (cd_all rfl) rfl T.z_all zb (pal_val (pl_frz (pl_comp (sc:=(defScope s_whole_in)) (N:=N_whole_in) (Nt:=["sign"]) (Nf:=[]) (fi:=[]) rfl rfl rfl (pil_str (pl_var 1)) rfl zb zb zb zd rfl zb zd (λ_ _ _ _=>(tc_name zd (show((["sign"]:List Str)++([]:List Str)).Nodup by decide +kernel) rfl (Or.inl rfl))) (λ_ _ _ _=>pif_nil) (λ_ _ _ _=>(pl_chainN pl_str (Links.cons od_le2 (pl_var 0) (Links.one od_le2 pl_str)))))) pal_nil))))))) (pms_one (pm_ret pl_non)) pms_nil)
  (pms_cons (pm_set (i:=2) sc_whole_in.nd rfl zX (pl_frz (pl_callTD cd_intT rfl T.z_int zb (pal_val (pl_var 0) pal_nil))))
  (pms_one (pm_ret (pl_ifE (pbc od_eqS (pl_callTD cd_strI rfl T.z_str zb (pal_val (pl_var 2) pal_nil)) (pl_var 0) (nomark _)) (pl_var 2) pl_non)))))))
  sat_whole_in
theorem sc_shown_tree:FnScope N_shown_tree ["tree"] (defScope s_shown_tree):=⟨rfl,rfl,rfl,zb,rfl,zb,zb⟩
theorem okr_shown_tree(T:Tx K mg ad fd):∀ n,FnOk P w K mg base CX0 (1+n) (ad 3) (fd 3) ["tree"] (spF K 1 (fsr_shown_tree n))
 |0=>fnOk_no no_shown_tree
 | n+1=>fn_ok (k:=1+n) T.x_shown_tree.f sc_shown_tree (m_shown_tree (fsr_shown_tree n)) (λcdv A outer s H E hr=>(pms_cons (pm_if (pbc (od_ne hr.units) (pl_ix (pl_var 0) pl_int (λ_ _=>rfl)) (pl_G T.g_SPLIT rfl) (nomark _)) (pms_one (pm_ret (pl_join (pl_comp (sc:=(defScope s_shown_tree)) (N:=N_shown_tree) (Nt:=["one"]) (Nf:=[]) (fi:=[]) rfl rfl rfl (pil_seq (pl_var 0)) rfl zb zb zb zd rfl zb zd (λ_ _ _ _=>(tc_name zd (show((["one"]:List Str)++([]:List Str)).Nodup by decide +kernel) rfl (Or.inl rfl))) (λ_ _ _ _=>pif_nil) (λ_ _ _ _=>(pl_callTD cd_strU rfl T.z_str zb (pal_val (pl_var 0) pal_nil))))))) pms_nil)
  (pms_cons (pm_set (i:=1) sc_shown_tree.nd rfl zX (pl_ix (pl_var 0) pl_int (λ_ _=>rfl)))
  (pms_cons (pm_set (i:=2) sc_shown_tree.nd rfl zX (pl_frz (pl_cx (okr_shown_tree T n) T.x_shown_tree hr (pal_val (pl_ix (pl_var 0) pl_int (λ_ _=>rfl)) pal_nil) (hk:=by omega))))
  (pms_cons (pm_set (i:=3) sc_shown_tree.nd rfl zX (pl_frz (pl_cx (okr_shown_tree T n) T.x_shown_tree hr (pal_val (pl_ix (pl_var 0) pl_int (λ_ _=>rfl)) pal_nil) (hk:=by omega))))
  (pms_one (pm_ret (pl_fstr (pl_fmt (pl_G T.g_SPLIT rfl)) pl_str (.cons (pl_fmt (pl_var 1)) (.cons pl_str (.cons (pl_fmt (pl_var 2)) (.cons (pl_fmt (pl_G T.g_BAR rfl)) (.cons (pl_fmt (pl_var 3)) (.cons pl_str .nil))))))))))))))
  (sat_shown_tree n)
theorem ok_shown_tree(T:Tx K mg ad fd):FnOk P w K mg base CX0 49 (ad 3) (fd 3) ["tree"] (spF K 1 fs_shown_tree):=okr_shown_tree T 48
theorem sc_cut_in:FnScope N_cut_in ["words"] (defScope s_cut_in):=⟨rfl,rfl,rfl,zb,rfl,zb,zb⟩
theorem ok_cut_in(T:Tx K mg ad fd):FnOk P w K mg base CX0 3 (ad 4) (fd 4) ["words"] (spF K 1 fs_cut_in) :=
 fn_ok (k:=2) T.x_cut_in.f sc_cut_in m_cut_in (λcdv A outer s H E hr=>(pms_cons (pm_setC sc_cut_in.nd (j:=1) rfl zX (sc:=(defScope s_cut_in)) (N:=N_cut_in) (Nt:=["word"]) (Nf:=[]) (fi:=[]) rfl rfl rfl (pil_seq (pl_slice2 (pl_var 0) pl_int trivial)) rfl zb zb zb zd rfl zb zd (λ_ _ _ _=>(tc_name zd (show((["word"]:List Str)++([]:List Str)).Nodup by decide +kernel) rfl (Or.inl rfl))) (λ_ _ _ _=>pif_nil) (λ_ _ _ _=>(pl_cx (ok_whole_in T) T.x_whole_in hr (pal_val (pl_var 0) pal_nil))))
  (pms_cons (pm_if (PBw.pb (pbw_or (pbc (od_ne hr.units) (pl_callD cd_len rfl T.z_len zb (pal_val (pl_var 1) pal_nil)) pl_int (nomark _)) (pbw_or1 (pb_not (pb_val (pl_callD (cd_all rfl) rfl T.z_all zb (pal_val (pl_frz (pl_comp (sc:=(defScope s_cut_in)) (N:=N_cut_in) (Nt:=["tie"]) (Nf:=[]) (fi:=[]) rfl rfl rfl (pil_seq (pl_var 1)) rfl zb zb zb zd rfl zb zd (λ_ _ _ _=>(tc_name zd (show((["tie"]:List Str)++([]:List Str)).Nodup by decide +kernel) rfl (Or.inl rfl))) (λ_ _ _ _=>pif_nil) (λ_ _ _ _=>(pl_cx (ok_is_number_below T) T.x_is_number_below hr (pal_val (pl_var 0) (pal_val (pl_G T.g_MOST_TIES rfl) pal_nil)))))) pal_nil))))))) (pms_one (pm_ret pl_non)) pms_nil)
  (pms_one (pm_ret (pl_tup (pal_val (pl_G T.g_CUT rfl) (pal_val (pl_ix (pl_var 1) pl_int (λ_ _=>rfl)) (pal_val (pl_ix (pl_var 1) pl_int (λ_ _=>rfl)) pal_nil)))))))))
  sat_cut_in
theorem sc_bar_in:FnScope N_bar_in ["text"] (defScope s_bar_in):=⟨rfl,rfl,rfl,zb,rfl,zb,zb⟩
theorem ok_bar_in(T:Tx K mg ad fd):FnOk P w K mg base CX0 1 (ad 5) (fd 5) ["text"] (spF K 1 fs_bar_in) :=
 fn_ok (k:=0) T.x_bar_in.f sc_bar_in m_bar_in (λcdv A outer s H E hr=>(pms_cons (pm_set (i:=1) sc_bar_in.nd rfl zX pl_int)
  (pms_cons (pm_for bP rfl (pil_enumS rfl T.z_enumerate (pl_var 0)) (tg_tup rfl (tgs_cons (i:=2) sc_bar_in.nd rfl zX (tgs_cons (i:=3) sc_bar_in.nd rfl zX tgs_nil))) (pms_cons (pm_if (pbc (od_eq hr.units) (pl_var 3) pl_str (nomark _)) (pms_one (pm_aug ip_add (i:=1) sc_bar_in.nd rfl zX pl_int)) pms_nil)
  (pms_cons (pm_if (pbc (od_eq hr.units) (pl_var 3) pl_str (nomark _)) (pms_one (pm_aug ip_sub (i:=1) sc_bar_in.nd rfl zX pl_int)) pms_nil)
  (pms_one (pm_if (PBw.pb (pbw_and (pbc (od_eq hr.units) (pl_var 1) pl_int (nomark _)) (pbw_and1 (pbc (od_eq hr.units) (pl_slice2 (pl_var 0) (pl_var 2) (pl_bin od_add (pl_var 2) (pl_callD cd_len rfl T.z_len zb (pal_val (pl_G T.g_BAR rfl) pal_nil)))) (pl_G T.g_BAR rfl) (nomark _))))) (pms_one (pm_ret (pl_move 2))) pms_nil)))))
  (pms_one (pm_ret pl_non)))))
  sat_bar_in
theorem sc_split_in:FnScope N_split_in ["text","splits"] (defScope s_split_in):=⟨rfl,rfl,rfl,zb,rfl,zb,zb⟩
theorem sc_tree_in:FnScope N_tree_in ["text","splits"] (defScope s_tree_in):=⟨rfl,rfl,rfl,zb,rfl,zb,zb⟩
theorem okr_tree_in(T:Tx K mg ad fd):∀ n,FnOk P w K mg base CX0 (4+n) (ad 7) (fd 7) ["text","splits"] (spF K 2 (fsr_tree_in n))/\FnOk P w K mg base CX0 (4+n) (ad 6) (fd 6) ["text","splits"] (spF K 2 (fsr_split_in n))
 |0=>⟨fnOk_no no_tree_in,fnOk_no no_split_in⟩
 | n+1=>⟨fn_ok (k:=4+n) T.x_tree_in.f sc_tree_in (m_tree_in (fsr_split_in n)) (λcdv A outer s H E hr=>(pms_cons (pm_set (i:=2) sc_tree_in.nd rfl zX (pl_frz (pl_split (pl_var 0))))
  (pms_cons (pm_if (pbc (od_eq hr.units) (pl_var 2) (pl_lst (pal_val (pl_G T.g_TURNED rfl) pal_nil)) (nomark _)) (pms_one (pm_ret (pl_tup (pal_val (pl_G T.g_TURNED rfl) pal_nil)))) pms_nil)
  (pms_cons (pm_if (pbc (od_eq hr.units) (pl_ix (pl_var 2) pl_int (λ_ _=>rfl)) (pl_G T.g_CUT rfl) (nomark _)) (pms_one (pm_ret (pl_cx (ok_cut_in T) T.x_cut_in hr (pal_val (pl_var 2) pal_nil) (hk:=by omega)))) pms_nil)
  (pms_cons (pm_if (PBw.pb (pbw_and (pbc (od_eq hr.units) (pl_ix (pl_var 2) pl_int (λ_ _=>rfl)) (pl_G T.g_SPLIT rfl) (nomark _)) (pbw_and1 (pbc od_gt (pl_var 1) pl_int (nomark _))))) (pms_one (pm_ret (pl_cx (okr_tree_in T n).2 T.x_split_in hr (pal_val (pl_var 0) (pal_val (pl_var 1) pal_nil)) (hk:=by omega)))) pms_nil)
  (pms_one (pm_ret pl_non))))))) (sat_tree_in n),fn_ok (k:=4+n) T.x_split_in.f sc_split_in (m_split_in (fsr_tree_in n)) (λcdv A outer s H E hr=>(pms_cons (pm_set (i:=2) sc_split_in.nd rfl zX (pl_frz (pl_ptn (pl_var 0))))
  (pms_cons (pm_set (i:=3) sc_split_in.nd rfl zX (pl_frz (pl_cx (ok_whole_in T) T.x_whole_in hr (pal_val (pl_frz (pl_slice2 (pl_ix (pl_var 2) pl_int (λ_ _=>rfl)) (pl_bin od_add (pl_callD cd_len rfl T.z_len zb (pal_val (pl_G T.g_SPLIT rfl) pal_nil)) pl_int) trivial)) pal_nil) (hk:=by omega))))
  (pms_cons (pm_set (i:=4) sc_split_in.nd rfl zX (pl_ix (pl_var 2) pl_int (λ_ _=>rfl)))
  (pms_cons (pm_set (i:=5) sc_split_in.nd rfl zX (pl_frz (pl_cx (ok_bar_in T) T.x_bar_in hr (pal_val (pl_var 4) pal_nil) (hk:=by omega))))
  (pms_cons (pm_if (PBw.pb (pbw_or (pb_not (pb_val (pl_cx (ok_is_number_below T) T.x_is_number_below hr (pal_val (pl_var 3) (pal_val (pl_G T.g_MOST_ASKS rfl) pal_nil)) (hk:=by omega)))) (pbw_or (pbc od_isN' (pl_var 5) pl_non (nomark _)) (pbw_or1 (pb_not (pb_val (pl_ends (pl_var 4)))))))) (pms_one (pm_ret pl_non)) pms_nil)
  (pms_cons (pm_set (i:=6) sc_split_in.nd rfl zX (pl_frz (pl_cx (okr_tree_in T n).1 T.x_tree_in hr (pal_val (pl_frz (pl_slice2 (pl_var 4) trivial (pl_var 5))) (pal_val (pl_bin od_sub (pl_var 1) pl_int) pal_nil)) (hk:=by omega))))
  (pms_cons (pm_set (i:=7) sc_split_in.nd rfl zX (pl_frz (pl_cx (okr_tree_in T n).1 T.x_tree_in hr (pal_val (pl_frz (pl_slice2 (pl_var 4) (pl_bin od_add (pl_var 5) (pl_callD cd_len rfl T.z_len zb (pal_val (pl_G T.g_BAR rfl) pal_nil))) (pl_neg pl_int))) (pal_val (pl_bin od_sub (pl_var 1) pl_int) pal_nil)) (hk:=by omega))))
  (pms_one (pm_ret (pl_ifE (PBw.pb (pbw_or (pbc od_isN' (pl_var 6) pl_non (nomark _)) (pbw_or1 (pbc od_isN' (pl_var 7) pl_non (nomark _))))) pl_non (pl_tup (pal_val (pl_G T.g_SPLIT rfl) (pal_val (pl_var 3) (pal_val (pl_var 6) (pal_val (pl_var 7) pal_nil)))))))))))))))) (sat_split_in n)⟩
theorem ok_tree_in(T:Tx K mg ad fd):FnOk P w K mg base CX0 52 (ad 7) (fd 7) ["text","splits"] (spF K 2 fs_tree_in):=(okr_tree_in T 48).1
theorem sc_read_tree:FnScope N_read_tree ["text"] (defScope s_read_tree):=⟨rfl,rfl,rfl,zb,rfl,zb,zb⟩
theorem ok_read_tree(T:Tx K mg ad fd):FnOk P w K mg base CX0 53 (ad 8) (fd 8) ["text"] (spF K 1 fs_read_tree) :=
 fn_ok (k:=52) T.x_read_tree.f sc_read_tree m_read_tree (λcdv A outer s H E hr=>(pms_cons (pm_set (i:=1) sc_read_tree.nd rfl zX (pl_ifE (pb_val (pl_isT kit_str rfl T.z_isinstance rfl T.z_str zb (pl_var 0))) (pl_cx (ok_tree_in T) T.x_tree_in hr (pal_val (pl_var 0) (pal_val (pl_G T.g_MOST_SPLITS rfl) pal_nil))) pl_non))
  (pms_cons (pm_if (pbc od_isN' (pl_var 1) pl_non (nomark _)) (pms_one pm_never) pms_nil)
  (pms_one (pm_ret (pl_move 1))))))
  sat_read_tree
theorem sc__law_begun:FnScope N__law_begun ["_law_script","_law_k"] (defScope s__law_begun):=⟨rfl,rfl,rfl,zb,rfl,zb,zb⟩
theorem ok__law_begun(T:Tx K mg ad fd):FnOk P w K mg base CX0 1 (ad 9) (fd 9) ["_law_script","_law_k"] (spF K 2 fs__law_begun) :=
 fn_ok (k:=0) T.x__law_begun.f sc__law_begun m__law_begun (λcdv A outer s H E hr=>(pms_cons (pm_set (i:=2) sc__law_begun.nd rfl zX pl_int)
  (pms_cons (pm_if (pbc od_lt (pl_var 1) (pl_callD cd_len rfl T.z_len zb (pal_val (pl_var 0) pal_nil)) (nomark _)) (pms_one (pm_set (i:=2) sc__law_begun.nd rfl zX (pl_ix (pl_var 0) (pl_var 1) (λ_ _=>rfl)))) pms_nil)
  (pms_one (pm_ret (pl_lst (pal_val (pl_var 2) (pal_val (pl_bin od_mod (pl_bin od_add (pl_bin od_add (pl_bin od_mod (pl_var 2) pl_int) (pl_bin od_mulI (pl_bin od_mulI pl_int (pl_var 1)) (pl_var 1))) pl_int) pl_int) (pal_val (pl_cmp od_ge (pl_var 2) (pl_bin od_pow pl_int pl_int) (nomark _)) pal_nil)))))))))
  sat__law_begun
theorem sc__law_take:FnScope N__law_take ["_law_state","_law_many"] (defScope s__law_take):=⟨rfl,rfl,rfl,zb,rfl,zb,zb⟩
theorem ok__law_take(T:Tx K mg ad fd):FnOk P w K mg base CX0 1 (ad 10) (fd 10) ["_law_state","_law_many"] (spF K 2 fs__law_take) :=
 fn_ok (k:=0) T.x__law_take.f sc__law_take m__law_take (λcdv A outer s H E hr=>(pms_cons (pm_if (pb_val (pl_own (pl_ixV 0 pl_int (λ_ _=>rfl)) (pl_ix (pl_var 0) pl_int (λ_ _=>rfl)))) (pms_cons (pm_set (i:=2) sc__law_take.nd rfl zX (pl_bin od_mod (pl_own (pl_ixV 0 pl_int (λ_ _=>rfl)) (pl_ix (pl_var 0) pl_int (λ_ _=>rfl))) (pl_var 1)))
  (pms_cons (pm_setV 0 pl_int (pl_bin od_div (pl_own (pl_ixV 0 pl_int (λ_ _=>rfl)) (pl_ix (pl_var 0) pl_int (λ_ _=>rfl))) (pl_var 1)))
  (pms_cons (pm_setV 0 pl_int (pl_cmp od_gt (pl_own (pl_ixV 0 pl_int (λ_ _=>rfl)) (pl_ix (pl_var 0) pl_int (λ_ _=>rfl))) pl_int (nomark _)))
  (pms_one (pm_ret (pl_move 2)))))) pms_nil)
  (pms_cons (pm_set (i:=3) sc__law_take.nd rfl zX pl_int)
  (pms_cons (pm_for bP rfl (pil_rng1 rfl T.z_range (pl_bin od_add pl_int (pl_bin od_mulI pl_int (pl_callTD cd_int rfl T.z_int zb (pal_val (pl_cmp od_gt (pl_var 1) (pl_bin od_pow pl_int pl_int) (nomark _)) pal_nil))))) (tg_name (i:=4) sc__law_take.nd rfl zX) (pms_cons (pm_setV 0 pl_int (pl_bin od_mod (pl_bin od_add (pl_bin od_mulI (pl_own (pl_ixV 0 pl_int (λ_ _=>rfl)) (pl_ix (pl_var 0) pl_int (λ_ _=>rfl))) pl_int) pl_int) pl_int))
  (pms_one (pm_set (i:=3) sc__law_take.nd rfl zX (pl_frz (pl_bin od_add (pl_bin od_mulI (pl_var 3) pl_int) (pl_bin od_mod (pl_bin od_mulI (pl_own (pl_ixV 0 pl_int (λ_ _=>rfl)) (pl_ix (pl_var 0) pl_int (λ_ _=>rfl))) (pl_own (pl_ixV 0 pl_int (λ_ _=>rfl)) (pl_ix (pl_var 0) pl_int (λ_ _=>rfl)))) pl_int)))))))
  (pms_one (pm_ret (pl_bin od_mod (pl_bin od_div (pl_var 3) pl_int) (pl_var 1))))))))
  sat__law_take
theorem sc__law_leaf:FnScope N__law_leaf ["_law_state"] (defScope s__law_leaf):=⟨rfl,rfl,rfl,zb,rfl,zb,zb⟩
theorem ok__law_leaf(T:Tx K mg ad fd):FnOk P w K mg base CX0 2 (ad 11) (fd 11) ["_law_state"] (spF K 1 fs__law_leaf) :=
 fn_ok (k:=1) T.x__law_leaf.f sc__law_leaf m__law_leaf (λcdv A outer s H E hr=>(pms_cons (pm_if (pbc (od_eq hr.units) (pl_cxB (ok__law_take T) T.x__law_take hr 0 0 (pal_var 0 (pal_val pl_int pal_nil))) pl_int (nomark _)) (pms_one (pm_ret (pl_tup (pal_val pl_str pal_nil)))) pms_nil)
  (pms_one (pm_ret (pl_tup (pal_val pl_str (pal_val (pl_frz (pl_cxB (ok__law_take T) T.x__law_take hr 0 0 (pal_var 0 (pal_val pl_int pal_nil)))) (pal_val (pl_frz (pl_cxB (ok__law_take T) T.x__law_take hr 0 0 (pal_var 0 (pal_val pl_int pal_nil)))) pal_nil))))))))
  sat__law_leaf
theorem sc__law_tree:FnScope N__law_tree ["_law_script","_law_most"] (defScope s__law_tree):=⟨rfl,rfl,rfl,zb,rfl,zb,zb⟩
theorem ok__law_tree(T:Tx K mg ad fd):FnOk P w K mg base CX0 3 (ad 12) (fd 12) ["_law_script","_law_most"] (spF K 2 fs__law_tree) :=
 fn_ok (k:=2) T.x__law_tree.f sc__law_tree m__law_tree (λcdv A outer s H E hr=>by exact(@pms_cons _ _ _ _ _ (@pm_set _ _ _ 2 _ _ _ sc__law_tree.nd rfl zX (@pl_lst _ _ _ _ _ pal_nil) za (by first | exact .inl rfl | exact .inr rfl)) (@pms_cons _ _ _ _ _ (@pm_set _ _ _ 3 _ _ _ sc__law_tree.nd rfl zX (@pl_lst _ _ _ _ _ pal_nil) za (by first | exact .inl rfl | exact .inr rfl)) (@pms_cons _ _ _ _ _ (pm_for bP rfl (pil_rng1 rfl T.z_range (pl_callD (cd_max rfl) rfl T.z_max zb (@pal_val _ _ _ _ _ _ pl_int (@pal_val _ _ _ _ _ _ (@pl_frz _ _ _ (pl_callD (cd_min rfl) rfl T.z_min zb (@pal_val _ _ _ _ _ _ (@pl_frz _ _ _ (pl_callD cd_len rfl T.z_len zb (@pal_val _ _ _ _ _ _ (pl_var 0) pal_nil za))) (@pal_val _ _ _ _ _ _ pl_int pal_nil za) za))) pal_nil za) za))) (tg_name (i:=4) sc__law_tree.nd rfl zX) (@pms_cons _ _ _ _ _ (@pm_set _ _ _ 5 _ _ _ sc__law_tree.nd rfl zX (pl_cx (ok__law_begun T) T.x__law_begun hr (@pal_val _ _ _ _ _ _ (pl_var 0) (@pal_val _ _ _ _ _ _ (pl_var 4) pal_nil za) za)) za (by first | exact .inl rfl | exact .inr rfl)) (@pms_cons _ _ _ _ _ (@pm_set _ _ _ 6 _ _ _ sc__law_tree.nd rfl zX (@pl_frz _ _ _ (pl_cxB (ok__law_take T) T.x__law_take hr 0 5 (pal_var 5 (@pal_val _ _ _ _ _ _ pl_int pal_nil za)))) za (by first | exact .inl rfl | exact .inr rfl)) (@pms_one _ _ _ (@pm_if _ _ _ _ _ _ _ _ (PBw.pb (pbw_and (pbc (od_eq hr.units) (pl_var 6) pl_int (nomark _)) (pbw_and (pbc od_gt (@pl_own _ _ _ _ _ (pl_lenV 2 rfl T.z_len) (pl_callD cd_len rfl T.z_len PySem.boot_len (@pal_val _ _ _ _ _ _ (pl_var 2) pal_nil za))) pl_int (nomark _)) (pbw_and1 (pbc od_lt (pl_callD (cd_maxL rfl) rfl T.z_max zb (@pal_val _ _ _ _ _ _ (@pl_frz _ _ _ (pl_peek 3 (@pl_slice2 _ _ _ _ _ _ _ _ _ (pl_var 3) (pl_neg pl_int) trivial))) pal_nil za)) (pl_var 1) (nomark _)))))) (@pms_cons _ _ _ _ _ (@pm_set _ _ _ 2 _ _ _ sc__law_tree.nd rfl zX (@pl_bin _ _ _ _ _ _ _ _ od_add (pl_peek 2 (@pl_slice2 _ _ _ _ _ _ _ _ _ (pl_var 2) trivial (pl_neg pl_int))) (@pl_lst _ _ _ _ _ (@pal_val _ _ _ _ _ _ (@pl_tup _ _ _ _ _ _ (@pal_val _ _ _ _ _ _ pl_str (@pal_val _ _ _ _ _ _ (@pl_frz _ _ _ (pl_cxB (ok__law_take T) T.x__law_take hr 0 5 (pal_var 5 (@pal_val _ _ _ _ _ _ pl_int pal_nil za)))) (@pal_val _ _ _ _ _ _ (@pl_own _ _ _ _ _ (pl_ixV 2 (pl_neg pl_int) (λ_ _=>rfl)) (@pl_ix _ _ _ _ _ _ (pl_var 2) (pl_neg pl_int) (λ_ _=>rfl))) (@pal_val _ _ _ _ _ _ (@pl_own _ _ _ _ _ (pl_ixV 2 (pl_neg pl_int) (λ_ _=>rfl)) (@pl_ix _ _ _ _ _ _ (pl_var 2) (pl_neg pl_int) (λ_ _=>rfl))) pal_nil za) za) za) za)) pal_nil za))) za (by first | exact .inl rfl | exact .inr rfl)) (@pms_one _ _ _ (@pm_set _ _ _ 3 _ _ _ sc__law_tree.nd rfl zX (@pl_bin _ _ _ _ _ _ _ _ od_add (pl_peek 3 (@pl_slice2 _ _ _ _ _ _ _ _ _ (pl_var 3) trivial (pl_neg pl_int))) (@pl_lst _ _ _ _ _ (@pal_val _ _ _ _ _ _ (@pl_frz _ _ _ (@pl_bin _ _ _ _ _ _ _ _ od_add pl_int (pl_callD (cd_maxL rfl) rfl T.z_max zb (@pal_val _ _ _ _ _ _ (@pl_frz _ _ _ (pl_peek 3 (@pl_slice2 _ _ _ _ _ _ _ _ _ (pl_var 3) (pl_neg pl_int) trivial))) pal_nil za)))) pal_nil za))) za (by first | exact .inl rfl | exact .inr rfl)))) (@pms_cons _ _ _ _ _ (pm_expr (pl_append 2 (pl_cxB (ok__law_leaf T) T.x__law_leaf hr 0 5 (pal_var 5 pal_nil)))) (@pms_one _ _ _ (pm_expr (pl_append 3 pl_int))))))))) (@pms_cons _ _ _ _ _ (pm_while bP (pbc od_gt (@pl_own _ _ _ _ _ (pl_lenV 2 rfl T.z_len) (pl_callD cd_len rfl T.z_len PySem.boot_len (@pal_val _ _ _ _ _ _ (pl_var 2) pal_nil za))) pl_int (nomark _)) (@pms_one _ _ _ (@pm_if _ _ _ _ _ _ _ _ (pbc od_lt (pl_callD (cd_maxL rfl) rfl T.z_max zb (@pal_val _ _ _ _ _ _ (@pl_frz _ _ _ (pl_peek 3 (@pl_slice2 _ _ _ _ _ _ _ _ _ (pl_var 3) (pl_neg pl_int) trivial))) pal_nil za)) (pl_var 1) (nomark _)) (@pms_cons _ _ _ _ _ (@pm_set _ _ _ 2 _ _ _ sc__law_tree.nd rfl zX (@pl_bin _ _ _ _ _ _ _ _ od_add (pl_peek 2 (@pl_slice2 _ _ _ _ _ _ _ _ _ (pl_var 2) trivial (pl_neg pl_int))) (@pl_lst _ _ _ _ _ (@pal_val _ _ _ _ _ _ (@pl_tup _ _ _ _ _ _ (@pal_val _ _ _ _ _ _ pl_str (@pal_val _ _ _ _ _ _ (@pl_bin _ _ _ _ _ _ _ _ od_mod (@pl_own _ _ _ _ _ (pl_lenV 2 rfl T.z_len) (pl_callD cd_len rfl T.z_len PySem.boot_len (@pal_val _ _ _ _ _ _ (pl_var 2) pal_nil za))) pl_int) (@pal_val _ _ _ _ _ _ (@pl_own _ _ _ _ _ (pl_ixV 2 (pl_neg pl_int) (λ_ _=>rfl)) (@pl_ix _ _ _ _ _ _ (pl_var 2) (pl_neg pl_int) (λ_ _=>rfl))) (@pal_val _ _ _ _ _ _ (@pl_own _ _ _ _ _ (pl_ixV 2 (pl_neg pl_int) (λ_ _=>rfl)) (@pl_ix _ _ _ _ _ _ (pl_var 2) (pl_neg pl_int) (λ_ _=>rfl))) pal_nil za) za) za) za)) pal_nil za))) za (by first | exact .inl rfl | exact .inr rfl)) (@pms_one _ _ _ (@pm_set _ _ _ 3 _ _ _ sc__law_tree.nd rfl zX (@pl_bin _ _ _ _ _ _ _ _ od_add (pl_peek 3 (@pl_slice2 _ _ _ _ _ _ _ _ _ (pl_var 3) trivial (pl_neg pl_int))) (@pl_lst _ _ _ _ _ (@pal_val _ _ _ _ _ _ (@pl_frz _ _ _ (@pl_bin _ _ _ _ _ _ _ _ od_add pl_int (pl_callD (cd_maxL rfl) rfl T.z_max zb (@pal_val _ _ _ _ _ _ (@pl_frz _ _ _ (pl_peek 3 (@pl_slice2 _ _ _ _ _ _ _ _ _ (pl_var 3) (pl_neg pl_int) trivial))) pal_nil za)))) pal_nil za))) za (by first | exact .inl rfl | exact .inr rfl)))) (@pms_cons _ _ _ _ _ (pm_expr (pl_pop 2)) (@pms_one _ _ _ (pm_expr (pl_pop 3))))))) (@pms_one _ _ _ (@pm_ret _ _ _ _ (@pl_own _ _ _ _ _ (pl_ixV 2 pl_int (λ_ _=>rfl)) (@pl_ix _ _ _ _ _ _ (pl_var 2) pl_int (λ_ _=>rfl))))))))))
  sat__law_tree
theorem sc__law_same:FnScope N__law_same ["_law_told","_law_due"] (defScope s__law_same):=⟨rfl,rfl,rfl,zb,rfl,zb,zb⟩
theorem okr__law_same(T:Tx K mg ad fd):∀ n,FnOk P w K mg base CX0 (1+n) (ad 13) (fd 13) ["_law_told","_law_due"] (spF K 2 (fsr__law_same n))
 |0=>fnOk_no no__law_same
 | n+1=>fn_ok (k:=1+n) T.x__law_same.f sc__law_same (m__law_same (fsr__law_same n)) (λcdv A outer s H E hr=>(pms_cons (pm_if (PBw.pb (pbw_or (pb_not (pb_val (pl_isT kit_tuple rfl T.z_isinstance rfl T.z_tuple zb (pl_var 0)))) (pbw_or1 (pbc (od_ne hr.units) (pl_var 0) (pl_var 1) (nomark _))))) (pms_one (pm_ret pl_bl)) pms_nil)
  (pms_cons (pm_if (pbc od_in pl_bl (pl_comp (sc:=(defScope s__law_same)) (N:=N__law_same) (Nt:=["_law_part"]) (Nf:=[]) (fi:=[]) rfl rfl rfl (pil_seq (pl_var 0)) rfl zb zb zb zd rfl zb zd (λ_ _ _ _=>(tc_name zd (show((["_law_part"]:List Str)++([]:List Str)).Nodup by decide +kernel) rfl (Or.inl rfl))) (λ_ _ _ _=>pif_nil) (λ_ _ _ _=>(pl_isT kit_bool rfl T.z_isinstance rfl T.z_bool zb (pl_var 0)))) rfl) (pms_one (pm_ret pl_bl)) pms_nil)
  (pms_one (pm_ret (pl_or (pl_cmp (od_ne hr.units) (pl_ix (pl_var 1) pl_int (λ_ _=>rfl)) pl_str (nomark _)) (pl_one (pl_and (pl_cx (okr__law_same T n) T.x__law_same hr (pal_val (pl_ix (pl_var 0) pl_int (λ_ _=>rfl)) (pal_val (pl_ix (pl_var 1) pl_int (λ_ _=>rfl)) pal_nil)) (hk:=by omega)) (pl_one (pl_cx (okr__law_same T n) T.x__law_same hr (pal_val (pl_ix (pl_var 0) pl_int (λ_ _=>rfl)) (pal_val (pl_ix (pl_var 1) pl_int (λ_ _=>rfl)) pal_nil)) (hk:=by omega)))))))))))
  (sat__law_same n)
theorem ok__law_same(T:Tx K mg ad fd):FnOk P w K mg base CX0 49 (ad 13) (fd 13) ["_law_told","_law_due"] (spF K 2 fs__law_same):=okr__law_same T 48
theorem sc__law_written:FnScope N__law_written ["_law_tree_here"] (defScope s__law_written):=⟨rfl,rfl,rfl,zb,rfl,zb,zb⟩
theorem okr__law_written(T:Tx K mg ad fd):∀ n,FnOk P w K mg base CX0 (1+n) (ad 14) (fd 14) ["_law_tree_here"] (spF K 1 (fsr__law_written n))
 |0=>fnOk_no no__law_written
 | n+1=>fn_ok (k:=1+n) T.x__law_written.f sc__law_written (m__law_written (fsr__law_written n)) (λcdv A outer s H E hr=>(pms_cons (pm_if (pbc (od_eq hr.units) (pl_ix (pl_var 0) pl_int (λ_ _=>rfl)) pl_str (nomark _)) (pms_one (pm_ret pl_str)) pms_nil)
  (pms_cons (pm_if (pbc (od_eq hr.units) (pl_ix (pl_var 0) pl_int (λ_ _=>rfl)) pl_str (nomark _)) (pms_one (pm_ret (pl_bin od_add (pl_bin od_add (pl_bin od_add pl_str (pl_callTD cd_strI rfl T.z_str zb (pal_val (pl_ix (pl_var 0) pl_int (λ_ _=>rfl)) pal_nil))) pl_str) (pl_callTD cd_strI rfl T.z_str zb (pal_val (pl_ix (pl_var 0) pl_int (λ_ _=>rfl)) pal_nil))))) pms_nil)
  (pms_cons (pm_set (i:=1) sc__law_written.nd rfl zX (pl_frz (pl_bin od_add (pl_bin od_add (pl_cx (okr__law_written T n) T.x__law_written hr (pal_val (pl_ix (pl_var 0) pl_int (λ_ _=>rfl)) pal_nil) (hk:=by omega)) pl_str) (pl_cx (okr__law_written T n) T.x__law_written hr (pal_val (pl_ix (pl_var 0) pl_int (λ_ _=>rfl)) pal_nil) (hk:=by omega)))))
  (pms_one (pm_ret (pl_bin od_add (pl_bin od_add (pl_bin od_add (pl_bin od_add pl_str (pl_callTD cd_strI rfl T.z_str zb (pal_val (pl_ix (pl_var 0) pl_int (λ_ _=>rfl)) pal_nil))) pl_str) (pl_var 1)) pl_str)))))))
  (sat__law_written n)
theorem ok__law_written(T:Tx K mg ad fd):FnOk P w K mg base CX0 49 (ad 14) (fd 14) ["_law_tree_here"] (spF K 1 fs__law_written):=okr__law_written T 48
theorem sc__law_right:FnScope N__law_right ["_law_tree_here"] (defScope s__law_right):=⟨rfl,rfl,rfl,zb,rfl,zb,zb⟩
theorem ok__law_right(T:Tx K mg ad fd):FnOk P w K mg base CX0 54 (ad 15) (fd 15) ["_law_tree_here"] (spF K 1 fs__law_right) :=
 fn_ok (k:=53) T.x__law_right.f sc__law_right m__law_right (λcdv A outer s H E hr=>(pms_cons (pm_set (i:=1) sc__law_right.nd rfl zX (pl_frz (pl_cx (ok_shown_tree T) T.x_shown_tree hr (pal_val (pl_var 0) pal_nil))))
  (pms_one (pm_ret (pl_and (pl_isT kit_str rfl T.z_isinstance rfl T.z_str zb (pl_var 1)) (pl_and (pl_cmp (od_eq hr.units) (pl_var 1) (pl_cx (ok__law_written T) T.x__law_written hr (pal_val (pl_var 0) pal_nil)) (nomark _)) (pl_one (pl_cx (ok__law_same T) T.x__law_same hr (pal_val (pl_frz (pl_cx (ok_read_tree T) T.x_read_tree hr (pal_val (pl_var 1) pal_nil))) (pal_val (pl_var 0) pal_nil))))))))))
  sat__law_right
theorem sc_law:FnScope N_law ["_law_script"] (defScope s_law):=⟨rfl,rfl,rfl,zb,rfl,zb,zb⟩
theorem ok_law(T:Tx K mg ad fd):FnOk P w K mg base CX0 55 (ad 16) (fd 16) ["_law_script"] (spF K 1 fs_law) :=
 fn_ok (k:=54) T.x_law.f sc_law m_law (λcdv A outer s H E hr=>by exact(@pms_cons _ _ _ _ _ (@pm_set _ _ _ 1 _ _ _ sc_law.nd rfl zX (@pl_frz _ _ _ (pl_cx (ok__law_tree T) T.x__law_tree hr (@pal_val _ _ _ _ _ _ (pl_var 0) (@pal_val _ _ _ _ _ _ pl_int pal_nil za) za))) za (by first | exact .inl rfl | exact .inr rfl)) (@pms_cons _ _ _ _ _ (@pm_if _ _ _ _ _ _ _ _ (pb_not (pb_val (pl_cx (ok__law_right T) T.x__law_right hr (@pal_val _ _ _ _ _ _ (pl_var 1) pal_nil za)))) (@pms_one _ _ _ (@pm_ret _ _ _ _ pl_bl)) pms_nil) (@pms_cons _ _ _ _ _ (pm_while bP (pbc (od_eq hr.units) (@pl_ix _ _ _ _ _ _ (pl_var 1) pl_int (λ_ _=>rfl)) pl_str (nomark _)) (@pms_cons _ _ _ _ _ (@pm_if _ _ _ _ _ _ _ _ (PBw.pb (pbw_or (pb_not (pb_val (pl_cx (ok__law_right T) T.x__law_right hr (@pal_val _ _ _ _ _ _ (@pl_ix _ _ _ _ _ _ (pl_var 1) pl_int (λ_ _=>rfl)) pal_nil za)))) (pbw_or1 (pbc (od_ne hr.units) (pl_callD cd_len rfl T.z_len zb (@pal_val _ _ _ _ _ _ (pl_var 1) pal_nil za)) pl_int (nomark _))))) (@pms_one _ _ _ (@pm_ret _ _ _ _ pl_bl)) pms_nil) (@pms_one _ _ _ (@pm_set _ _ _ 1 _ _ _ sc_law.nd rfl zX (@pl_ix _ _ _ _ _ _ (pl_var 1) pl_int (λ_ _=>rfl)) za (by first | exact .inl rfl | exact .inr rfl))))) (@pms_cons _ _ _ _ _ (@pm_set _ _ _ 2 _ _ _ sc_law.nd rfl zX (@pl_tup _ _ _ _ _ _ (@pal_val _ _ _ _ _ _ pl_str pal_nil za)) za (by first | exact .inl rfl | exact .inr rfl)) (@pms_cons _ _ _ _ _ (pm_for bP rfl (pil_rng1 rfl T.z_range pl_int) (tg_name (i:=3) sc_law.nd rfl zX) (@pms_one _ _ _ (@pm_set _ _ _ 2 _ _ _ sc_law.nd rfl zX (@pl_ix _ _ _ _ _ _ (@pl_lst _ _ _ _ _ (@pal_val _ _ _ _ _ _ (@pl_tup _ _ _ _ _ _ (@pal_val _ _ _ _ _ _ pl_str (@pal_val _ _ _ _ _ _ (pl_var 3) (@pal_val _ _ _ _ _ _ (pl_var 2) (@pal_val _ _ _ _ _ _ (@pl_tup _ _ _ _ _ _ (@pal_val _ _ _ _ _ _ pl_str (@pal_val _ _ _ _ _ _ pl_int (@pal_val _ _ _ _ _ _ pl_int pal_nil za) za) za)) pal_nil za) za) za) za)) (@pal_val _ _ _ _ _ _ (@pl_tup _ _ _ _ _ _ (@pal_val _ _ _ _ _ _ pl_str (@pal_val _ _ _ _ _ _ (pl_var 3) (@pal_val _ _ _ _ _ _ (@pl_tup _ _ _ _ _ _ (@pal_val _ _ _ _ _ _ pl_str (@pal_val _ _ _ _ _ _ pl_int (@pal_val _ _ _ _ _ _ pl_int pal_nil za) za) za)) (@pal_val _ _ _ _ _ _ (pl_var 2) pal_nil za) za) za) za)) pal_nil za) za)) (@pl_bin _ _ _ _ _ _ _ _ od_mod (@pl_bin _ _ _ _ _ _ _ _ od_add (pl_callD cd_len rfl T.z_len zb (@pal_val _ _ _ _ _ _ (pl_var 0) pal_nil za)) (pl_var 3)) pl_int) (λ_ _=>rfl)) za (by first | exact .inl rfl | exact .inr rfl)))) (@pms_cons _ _ _ _ _ (@pm_set _ _ _ 4 _ _ _ sc_law.nd rfl zX (@pl_tup _ _ _ _ _ _ (@pal_val _ _ _ _ _ _ pl_str pal_nil za)) za (by first | exact .inl rfl | exact .inr rfl)) (@pms_cons _ _ _ _ _ (pm_for bP rfl (pil_rng1 rfl T.z_range pl_int) (tg_name (i:=3) sc_law.nd rfl zX) (@pms_one _ _ _ (@pm_set _ _ _ 4 _ _ _ sc_law.nd rfl zX (@pl_tup _ _ _ _ _ _ (@pal_val _ _ _ _ _ _ pl_str (@pal_val _ _ _ _ _ _ (@pl_frz _ _ _ (@pl_bin _ _ _ _ _ _ _ _ od_add pl_int (pl_var 3))) (@pal_val _ _ _ _ _ _ (pl_var 4) (@pal_val _ _ _ _ _ _ (pl_var 4) pal_nil za) za) za) za)) za (by first | exact .inl rfl | exact .inr rfl)))) (@pms_one _ _ _ (@pm_ret _ _ _ _ (pl_and (pl_cx (ok__law_right T) T.x__law_right hr (@pal_val _ _ _ _ _ _ (pl_var 1) pal_nil za)) (pl_and (pl_cx (ok__law_right T) T.x__law_right hr (@pal_val _ _ _ _ _ _ (pl_var 2) pal_nil za)) (pl_one (pl_cx (ok__law_right T) T.x__law_right hr (@pal_val _ _ _ _ _ _ (pl_var 4) pal_nil za)))))))))))))))
  sat_law
end
noncomputable def adF(i:Nat):Addr:=([60,67,72,77,96,110,103,91,84,117,124,131,138,150,145,157,164]:List Addr).getD i 0
noncomputable abbrev md0:Value:=(.str "ringloads.names" 240)
noncomputable abbrev md1:Value:=(.str "ringloads.ringtexts" 261)
noncomputable abbrev md2:Value:=(.str "ringloads.papertexts" 277)
noncomputable abbrev md3:Value:=(.str "law_ringloads_k78_trees_written" 336)
noncomputable def fdF(i:Nat):FuncData:=[fdM "is_whole" s_is_whole md0 59,fdM "is_number_below" s_is_number_below md0 66,fdM "whole_in" s_whole_in md1 71,fdM "shown_tree" s_shown_tree md2 76,fdM "cut_in" s_cut_in md2 95,fdM "bar_in" s_bar_in md2 109,fdM "split_in" s_split_in md2 102,fdM "tree_in" s_tree_in md2 90,fdM "read_tree" s_read_tree md2 83,fdM "_law_begun" s__law_begun md3 116,fdM "_law_take" s__law_take md3 123,fdM "_law_leaf" s__law_leaf md3 130,fdM "_law_tree" s__law_tree md3 137,fdM "_law_same" s__law_same md3 149,fdM "_law_written" s__law_written md3 144,fdM "_law_right" s__law_right md3 156,fdM "law" s_law md3 163].getD i (fdM "law" s_law md0 0)
theorem tx{Pm:Params}{h:Heap}{mg:Str->Option Value}(X:(Hd.Kf Pm).In h)(G:h.Ns mainGlobals mg):Tx (Hd.Kf Pm) mg adF fdF where
 x_is_whole:=FX.mk' X G (a:=60) (c:=59) (md:=md0) za za za za λ_ _ _ _ _ _ u l=>match u,l with | [_],_=>rfl
 x_is_number_below:=FX.mk' X G (a:=67) (c:=66) (md:=md0) za za za za λ_ _ _ _ _ _ u l=>match u,l with | [_,_],_=>rfl
 x_whole_in:=FX.mk' X G (a:=72) (c:=71) (md:=md1) za za za za λ_ _ _ _ _ _ u l=>match u,l with | [_],_=>rfl
 x_shown_tree:=FX.mk' X G (a:=77) (c:=76) (md:=md2) za za za za λ_ _ _ _ _ _ u l=>match u,l with | [_],_=>rfl
 x_cut_in:=FX.mk' X G (a:=96) (c:=95) (md:=md2) za za za za λ_ _ _ _ _ _ u l=>match u,l with | [_],_=>rfl
 x_bar_in:=FX.mk' X G (a:=110) (c:=109) (md:=md2) za za za za λ_ _ _ _ _ _ u l=>match u,l with | [_],_=>rfl
 x_split_in:=FX.mk' X G (a:=103) (c:=102) (md:=md2) za za za za λ_ _ _ _ _ _ u l=>match u,l with | [_,_],_=>rfl
 x_tree_in:=FX.mk' X G (a:=91) (c:=90) (md:=md2) za za za za λ_ _ _ _ _ _ u l=>match u,l with | [_,_],_=>rfl
 x_read_tree:=FX.mk' X G (a:=84) (c:=83) (md:=md2) za za za za λ_ _ _ _ _ _ u l=>match u,l with | [_],_=>rfl
 x__law_begun:=FX.mk' X G (a:=117) (c:=116) (md:=md3) za za za za λ_ _ _ _ _ _ u l=>match u,l with | [_,_],_=>rfl
 x__law_take:=FX.mk' X G (a:=124) (c:=123) (md:=md3) za za za za λ_ _ _ _ _ _ u l=>match u,l with | [_,_],_=>rfl
 x__law_leaf:=FX.mk' X G (a:=131) (c:=130) (md:=md3) za za za za λ_ _ _ _ _ _ u l=>match u,l with | [_],_=>rfl
 x__law_tree:=FX.mk' X G (a:=138) (c:=137) (md:=md3) za za za za λ_ _ _ _ _ _ u l=>match u,l with | [_,_],_=>rfl
 x__law_same:=FX.mk' X G (a:=150) (c:=149) (md:=md3) za za za za λ_ _ _ _ _ _ u l=>match u,l with | [_,_],_=>rfl
 x__law_written:=FX.mk' X G (a:=145) (c:=144) (md:=md3) za za za za λ_ _ _ _ _ _ u l=>match u,l with | [_],_=>rfl
 x__law_right:=FX.mk' X G (a:=157) (c:=156) (md:=md3) za za za za λ_ _ _ _ _ _ u l=>match u,l with | [_],_=>rfl
 x_law:=FX.mk' X G (a:=164) (c:=163) (md:=md3) za za za za λ_ _ _ _ _ _ u l=>match u,l with | [_],_=>rfl
 z_all:=aW X G za
 z_bool:=aW X G za
 z_enumerate:=aW X G za
 z_int:=aW X G za
 z_isinstance:=aW X G za
 z_len:=aW X G za
 z_max:=aW X G za
 z_min:=aW X G za
 z_range:=aW X G za
 z_str:=aW X G za
 z_tuple:=aW X G za
 g_BAR:=globS_mk (bL X G (v:=(.str " | " 279)) za)
 g_CUT:=globS_mk (bL X G (v:=(.str "cut" 271)) za)
 g_MOST_ASKS:=globI_mk (bL X G (v:=(.int 20 259)) za)
 g_MOST_FIGURES:=globI_mk (bL X G (v:=(.int 60 263)) za)
 g_MOST_SPLITS:=globI_mk (bL X G (v:=(.int 20 281)) za)
 g_MOST_TIES:=globI_mk (bL X G (v:=(.int 12 257)) za)
 g_SPLIT:=globS_mk (bL X G (v:=(.str "split" 275)) za)
 g_TURNED:=globS_mk (bL X G (v:=(.str "turned" 273)) za)
theorem walkF(w:World)(mg:Str→Option Value)(fa:Addr)(h:Heap)(X:(Hd.Kf w.params).In h)(G:h.Ns mainGlobals mg) (hmg:mg "law"=some (.ref fa)) :
  ∃ fd:FuncData,(∀(s:Shared)(u:Value),BindsTo s fd ⟨[u],[]⟩ [("_law_script",u)])∧∀ base:Heap,(Hd.Kf w.params).In base→base.Ns mainGlobals mg→FnOk PySem.Challenge.pw_ringloads_k78_trees_written w (Hd.Kf w.params) mg base CX0 55 fa fd ["_law_script"] (spF (Hd.Kf w.params) 1 fs_law):=by
 have T:=tx X G
 have e:=hmg.symm.trans T.x_law.m
 cases e
 exact⟨_,fun s v=>.of_eq rfl,fun base _ _=>ok_law T⟩
theorem tabR(w:World):∀x∈L2.lamNames,PySem.W.tabIn (Hd.Kf w.params) x=none∨((PyProof.Rows.recsOf Hd.q).find? λe=>e.name == x).isSome=true:=by
 intro x hx;simp only[L2.lamNames,az,bh,or_false]at hx;rcases hx with rfl|rfl|rfl
 . exact .inl za
 . exact .inl za
 . exact .inl za
theorem walk{l:PySem.W.OpenLaw}{q:Program}{loose:List Str}{XP:(Str->Option Value)->Heap->Prop}{YP:World->Heap->Prop}{d:DefRec}{K:Params->PySem.W.Frag}(hn:l.most=some 63)(hq:PyProof.Rows.importsNone q=true)(hdf:d.params.defaults=[])
  (hY:∀(w:World)(h:Heap),YP w h->(K w.params).In h) (hto:∀w:World,L2.tabsOk (K w.params)=true) (hrc:∀(w:World),∀x∈L2.lamNames,PySem.W.tabIn (K w.params) x=none∨((PyProof.Rows.recsOf q).find? λe=>e.name == x).isSome=true)
  (F:∀(w:World)(mg:Str->Option Value)(fa:Addr)(h:Heap),(K w.params).In h->h.Ns mainGlobals mg->mg d.name=some (.ref fa) ->
   ∃ fd:FuncData,(∀(s:Shared)(u:Value),BindsTo s fd ⟨[u],[]⟩ [("_law_script",u)])/\∀ base:Heap,(K w.params).In base->base.Ns mainGlobals mg->FnOk l.prog w (K w.params) mg base CX0 55 fa fd ["_law_script"] (spF (K w.params) 1 fs_law)) :
  PySem.W.WalkO q loose XP YP l.row.toRowW d [] (λf vs=>PySem.call f vs) :=
 L2.walk_of (n:=63) (k:=55) (x:="_law_script") (CX:=λ_=>CX0) (sp:=λw=>spF (K w.params) 1 fs_law) hn hq zd hdf ⟨rfl,zd,zd,rfl⟩ hY hto hrc F (λ_ H a ns hl hO hS=>law_start hl hO hS (law_holds hl)) λ_ _ _ _ _ z=>z
end My
open PySem PySem.W PyProof.Rows
noncomputable abbrev PySem.W.Fast.tw15293382040111568501:PySem.Program:=PySem.Challenge.pw_ringloads_k78_trees_written
theorem PySem.W.Fast.te15293382040111568501:PySem.Challenge.pw_ringloads_k78_trees_written=PySem.W.Fast.tw15293382040111568501:=rfl
set_option maxRecDepth 100000 in
theorem PySem.Challenge.cw_ringloads_k78_trees_written_holds : PySem.Challenge.rw_ringloads_k78_trees_written.Holds := by
 w_on;o_law
 refine PySem.W.holds_open (q:=Hd.q) (loose:=Hd.loose) (Xt:=Hd.Xt) (XP:=XL Hd.q []) (Yf:=Hook.obs Hd.Hk) (Ya:=Hook.val Hd.Hk) (YP:=Hook.says Hd.Hk) (N:=_) Hd.left (Hook.of Hd.Hk) (Hook.keeps Hd.Hk) (fun s e=>xl_of s (bD.mp e).1) XL.keeps (by rfl) (by rfl) (by rfl) (fun s e=>recFacts_of (bD.mp e).2) (by rfl) (by assumption) zb ⟨rfl,rfl,rfl,rfl,rfl,zb⟩ ?hw ?hc
 case hw=>w_witness2
 case hc=>exact My.walk (l:=PySem.Challenge.rw_ringloads_k78_trees_written) (K:=Hd.Kf) rfl zb rfl (fun w h Y=>PySem.W.kIn_of Y) (fun w=>by kernel_rfl) My.tabR My.walkF