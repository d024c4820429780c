import PyProof.Rows.All
import Wide.All
import OpenK.AllK
import Wide.FinOn
import Lean
import PyProof.EqAt
import PyProof.EqKinds
import PyProof.TupleCall
import PyProof.ExcArgs
import KE.KSortKey
import KE.KIsAll
import PyProof.ExcInit
import PyProof.StationsW
import PyProof.NsDelKeeps
import PyProof.RulesAs
import PyProof.PassesOwn
import PyProof.ExcBaseAll.ValueError
import PyProof.InstStoreFacts
import PyProof.Rows.EqDataRows
import PyProof.ReprRoads
import PyProof.Rows.Range3
import PyProof.ConsumeWalk
import PyProof.FString5
import PyProof.ReprLen
import PyProof.Rows.TupAdd
import PyProof.Rows.RuleIs
import PyProof.ListNew
import KE.KRevIter
import PyProof.Rows.SeqMore2
import PyProof.ListRange
import KE.KEqDict
import PyProof.NeKinds
import PyProof.CallStr
import PyProof.ListMulAny
import PyProof.Rows.SetFrom
import PyProof.SetRoads
import KE.KSortTup
import PySem.Challenge.RW_ringloads_k76_sendings_and_ways_written
set_option Elab.async false
set_option linter.all false
set_option maxRecDepth 100000
set_option maxHeartbeats 0
theorem zb {α:Sort _} {a b:α} (h:a=b:=by kernel_rfl):a=b:=h
theorem zd {p:Prop} [Decidable p] (h:decide p=true:=by decide +kernel):p:=of_decide_eq_true h
theorem ze {p:Prop} [Decidable p] (h:decide p=true:=by decide):p:=of_decide_eq_true h
theorem zZ{p:Prop}(h:p:=by omega):p:=h
theorem zY{p:Prop}(h:p:=by simp):p:=h
section
open PySem PySem.Spec PyProof.Rows PySem.W
theorem ah:type_of% @wpAny_bind:=@wpAny_bind
theorem ai:type_of% @List.mem_cons_of_mem:=@List.mem_cons_of_mem
theorem aj:type_of% @Nat.lt_of_lt_of_le:=@Nat.lt_of_lt_of_le
theorem ak:type_of% @List.getElem?_eq_some_iff:=@List.getElem?_eq_some_iff
theorem ao:type_of% @List.mem_cons_self:=@List.mem_cons_self
theorem aq:type_of% @Heap.get?_push_of_some:=@Heap.get?_push_of_some
theorem ar:type_of% @wpAny_pure:=@wpAny_pure
theorem au:type_of% @Heap.lt_size:=@Heap.lt_size
theorem av:type_of% @List.mem_append_left:=@List.mem_append_left
theorem aw:type_of% @List.size_toArray:=@List.size_toArray
theorem ay:type_of% @Nat.le_refl:=@Nat.le_refl
theorem az:type_of% @List.mem_append_right:=@List.mem_append_right
theorem aA:type_of% @List.getElem?_append_right:=@List.getElem?_append_right
theorem aB:type_of% @Nat.pow_le_pow_right:=@Nat.pow_le_pow_right
theorem aC:type_of% @List.length_map:=@List.length_map
theorem aD:type_of% @List.mem_cons:=@List.mem_cons
theorem aE:type_of% @List.getElem?_eq_getElem:=@List.getElem?_eq_getElem
theorem aF:type_of% @Bool.false_ne_true:=@Bool.false_ne_true
theorem aG:type_of% @Nat.le_trans:=@Nat.le_trans
theorem aH:type_of% @List.mem_append:=@List.mem_append
theorem aI:type_of% @Option.some.injEq:=@Option.some.injEq
theorem aJ:type_of% @List.nodup_append:=@List.nodup_append
theorem aK:type_of% @List.getElem?_append_left:=@List.getElem?_append_left
theorem aL:type_of% @Bool.and_eq_true:=@Bool.and_eq_true
theorem aM:type_of% @PySem.W.mg_none_of:=@PySem.W.mg_none_of
theorem aN:type_of% @Heap.get?_update_other:=@Heap.get?_update_other
theorem aO:type_of% @List.lookup_cons:=@List.lookup_cons
theorem aP:type_of% @List.nodup_cons:=@List.nodup_cons
theorem aQ:type_of% @Nat.lt_of_le_of_lt:=@Nat.lt_of_le_of_lt
theorem aR:type_of% @Nat.ne_of_lt:=@Nat.ne_of_lt
theorem aS:type_of% @Nat.add_sub_cancel_left:=@Nat.add_sub_cancel_left
theorem aT:type_of% @beq_eq_false_iff_ne:=@beq_eq_false_iff_ne
theorem aU:type_of% @Heap.get?_push_size:=@Heap.get?_push_size
theorem aV:type_of% @List.append_nil:=@List.append_nil
theorem aW:type_of% @Option.some.inj:=@Option.some.inj
theorem aX:type_of% @List.length_cons:=@List.length_cons
theorem aY:type_of% @List.all_eq_true:=@List.all_eq_true
theorem aZ:type_of% @wpAny_loadPart_at:=@wpAny_loadPart_at
theorem a0:type_of% @wpAny_truthy_bool:=@wpAny_truthy_bool
theorem a5:type_of% @List.mem_map:=@List.mem_map
theorem a6:type_of% @SeqAt.canLay_of_shaped:=@SeqAt.canLay_of_shaped
theorem a7:type_of% @List.getElem?_set_self:=@List.getElem?_set_self
theorem a8:type_of% @List.map_cons:=@List.map_cons
theorem a9:type_of% @List.perm_append_comm:=@List.perm_append_comm
theorem ba:type_of% @exists_eq_left':=@exists_eq_left'
theorem bb:type_of% @decide_eq_false:=@decide_eq_false
theorem bc:type_of% @List.length_drop:=@List.length_drop
theorem bf:type_of% @Array.toList_append:=@Array.toList_append
theorem bg:type_of% @List.append_assoc:=@List.append_assoc
theorem bh:type_of% @wpAny_Call_Name_kw:=@wpAny_Call_Name_kw
theorem bj:type_of% @Int.natAbs_natCast:=@Int.natAbs_natCast
theorem bo:type_of% @List.getElem?_set_ne:=@List.getElem?_set_ne
theorem bp:type_of% @PySem.W.kia_one:=@PySem.W.kia_one
theorem bq:type_of% @List.zip_append:=@List.zip_append
theorem br:type_of% @List.sublist_append_right:=@List.sublist_append_right
theorem bu:type_of% @wpAny_mono:=@wpAny_mono
theorem bw:type_of% @List.getElem?_map:=@List.getElem?_map
theorem bz:type_of% @Heap.get?_update_self:=@Heap.get?_update_self
theorem bA:type_of% @List.length_append:=@List.length_append
theorem bB:type_of% @List.mem_singleton:=@List.mem_singleton
theorem bC:type_of% @List.zip_cons_cons:=@List.zip_cons_cons
theorem bD:type_of% @decide_eq_true:=@decide_eq_true
theorem bE:type_of% @List.contains_cons:=@List.contains_cons
theorem bF:type_of% @wpAny_holding:=@wpAny_holding
theorem bG:type_of% @List.mem_of_getElem?:=@List.mem_of_getElem?
theorem bH:type_of% @Bool.and_eq_true_iff:=@Bool.and_eq_true_iff
theorem bI:type_of% @decide_eq_true_eq:=@decide_eq_true_eq
theorem bJ:type_of% @wpAny_newObj_type:=@wpAny_newObj_type
theorem bK:type_of% @PySem.mem_of_lookup:=@PySem.mem_of_lookup
theorem bL:type_of% @Fast.te14364793385576792824:=@Fast.te14364793385576792824
theorem bM:type_of% @List.set_set:=@List.set_set
theorem bN:type_of% @Ne.symm:=@Ne.symm
theorem bO:type_of% @List.any_cons:=@List.any_cons
theorem bP:type_of% @Nat.zero_le:=@Nat.zero_le
theorem bQ:type_of% @Rat.num_divInt_den:=@Rat.num_divInt_den
theorem bR:type_of% @PySem.W.callWith_K:=@PySem.W.callWith_K
theorem bS:type_of% @wpAny_passesOwn:=@wpAny_passesOwn
theorem bT:type_of% @wpAny_execs_nil:=@wpAny_execs_nil
theorem bU:type_of% @Bool.eq_iff_iff:=@Bool.eq_iff_iff
theorem bV:type_of% @of_decide_eq_true:=@of_decide_eq_true
theorem bW:type_of% @List.Sublist.refl:=@List.Sublist.refl
theorem bX:type_of% @codeAny_call_builtin:=@codeAny_call_builtin
theorem bY:type_of% @Nat.lt_irrefl:=@Nat.lt_irrefl
theorem bZ:type_of% @Bool.or_false:=@Bool.or_false
theorem b7:type_of% @PySem.W.mg_of:=@PySem.W.mg_of
theorem b8:type_of% @beq_iff_eq:=@beq_iff_eq
theorem b9:type_of% @List.filterMap_cons:=@List.filterMap_cons
theorem cb:type_of% @List.length_take:=@List.length_take
theorem cf:type_of% @wpAny_field:=@wpAny_field
theorem cg:type_of% @List.map_map:=@List.map_map
theorem cj:type_of% @wpAny_standAt:=@wpAny_standAt
theorem ck:type_of% @congrArg:=@congrArg
end
namespace L2
open PySem PySem.Spec PyProof.Rows
noncomputable abbrev Key:=Sum Int Str
noncomputable def keyIs:Key->Value->Bool
 |.inl k,v=>Value.isInt k v
 |.inr x,v=>Value.isStrOf x v
noncomputable def keyH(w:World):Key->Int
 |.inl k=>hashInt k
 |.inr x=>hashStr w x
theorem keyIs_shape:∀{k:Key}{v:Value},keyIs k v=true->(∃i t,k=Sum.inl i/\v=Value.int i t)∨(∃x t,k=Sum.inr x/\v=Value.str x t)
 | .inl i,v,h=>by obtain⟨t,e⟩:=Value.isInt_shape (k:=i) (v:=v) h;exact .inl ⟨i,t,rfl,e⟩
 | .inr x,v,h=>by obtain⟨t,e⟩:=Value.isStrOf_shape (x:=x) (v:=v) h;exact .inr ⟨x,t,rfl,e⟩
theorem keyIs_int(i:Int)(t:Tok):keyIs (.inl i) (.int i t)=true:=by simp[keyIs,Value.isInt]
theorem keyIs_str(x:Str)(t:Tok):keyIs (.inr x) (.str x t)=true:=by simp[keyIs,Value.isStrOf]
theorem key_ll(a b:Int):decide ((Sum.inl a:Key)=Sum.inl b)=(a == b):=by
 by_cases e:a=b
 . subst e;simp
 . have h:¬(Sum.inl a:Key)=Sum.inl b:=λq=>e (Sum.inl.inj q);rw[bb h];exact(aT.mpr e).symm
theorem key_rr(a b:Str):decide ((Sum.inr a:Key)=Sum.inr b)=decide (a=b):=by
 by_cases e:a=b
 . subst e;simp
 . have h:¬(Sum.inr a:Key)=Sum.inr b:=λq=>e (Sum.inr.inj q);rw[bb h,bb e]
theorem key_lr(a:Int)(b:Str):decide ((Sum.inl a:Key)=Sum.inr b)=false:=bb (λq=>nomatch q)
theorem key_rl(a:Str)(b:Int):decide ((Sum.inr a:Key)=Sum.inl b)=false:=bb (λq=>nomatch q)
noncomputable def mixKind(prog:Program)(w:World):PySem.KeyKind prog w Key where
 is:=keyIs
 hash:=keyH w
 inj:=λv a b ha hb=>by
  rcases keyIs_shape ha with⟨i,t,rfl,rfl⟩|⟨x,t,rfl,rfl⟩
  .
   rcases keyIs_shape hb with⟨j,u,rfl,e⟩|⟨y,u,rfl,e⟩
   . injection e with e1 _;rw[e1]
   . exact nomatch e
  .
   rcases keyIs_shape hb with⟨j,u,rfl,e⟩|⟨y,u,rfl,e⟩
   . exact nomatch e
   . injection e with e1 _;rw[e1]
 byValue:=λk v h=>by rcases keyIs_shape h with⟨i,t,rfl,rfl⟩|⟨x,t,rfl,rfl⟩<;>rfl
 pyHash:=λhv h=>by
  rcases keyIs_shape hv with⟨i,t,rfl,rfl⟩|⟨x,t,rfl,rfl⟩
  . exact wpAny_pyHash_int h
  . exact wpAny_pyHash_str h
 eqBool:=λhu hv h=>by
  rcases keyIs_shape hu with⟨i,t,rfl,rfl⟩|⟨x,t,rfl,rfl⟩
  .
   rcases keyIs_shape hv with⟨j,u,rfl,rfl⟩|⟨y,u,rfl,rfl⟩
   . rw[key_ll]at h;exact wpAny_eqBool_int h
   . rw[key_lr]at h;exact SeqAt.EqAt.int_str i t y u _ _ _ _ h
  .
   rcases keyIs_shape hv with⟨j,u,rfl,rfl⟩|⟨y,u,rfl,rfl⟩
   . rw[key_rl]at h;exact SeqAt.EqAt.str_int x t j u _ _ _ _ h
   . rw[key_rr]at h;exact wpAny_eqBool_str h
 «strs»:=λk x t v h=>by
  rcases keyIs_shape h with⟨i,u,rfl,e⟩|⟨y,u,rfl,e⟩
  . exact nomatch e
  . injection e with e1 _;subst e1;cases v<;>rfl
theorem mixKind_int(prog:Program)(w:World)(i:Int)(t:Tok):(mixKind prog w).is (.inl i) (.int i t)=true:=keyIs_int i t
theorem mixKind_str(prog:Program)(w:World)(x:Str)(t:Tok):(mixKind prog w).is (.inr x) (.str x t)=true:=keyIs_str x t
inductive V where
 |non|bl (b:Bool)|int (i:Int)|str (x:Str)|byt (b:Array UInt8)|flt (b:UInt64)|ref (a:Addr)|ty (n:String)
 deriving DecidableEq
def RelV:V->Value->Prop
 |.non,u=>u=Value.none
 |.bl b,u=>u=Value.bool b
 |.int i,u=>∃t,u=Value.int i t
 |.str x,u=>∃t,u=Value.str x t
 |.byt b,u=>∃t,u=Value.bytes b t
 |.flt b,u=>∃t,u=Value.float b t
 |.ref a,u=>u=Value.ref a
 |.ty n,u=>u=Value.type n
abbrev Vals:List V->List Value->Prop:=Paired RelV
theorem Vals.length{xs:List V}{us:List Value}(r:Vals xs us):xs.length=us.length:=Paired.length r
theorem Vals.get:∀{xs:List V}{us:List Value}{i:Nat}{x:V},Vals xs us->xs[i]?=some x->∃u,us[i]?=some u/\RelV x u
 |_,_,_,_,.nil,e=>by simp at e
 |_,_,0,_,.cons r _,e=>by simp at e;subst e;exact⟨_,rfl,r⟩
 | _,_,i+1,x,.cons _ t,e=>by obtain⟨u,h1,h2⟩:=Vals.get (i:=i) (x:=x) t (by simpa using e);exact⟨u,by simpa using h1,h2⟩
theorem Vals.set{x:V}{u:Value}(r:RelV x u):∀{xs:List V}{us:List Value}(i:Nat),Vals xs us->Vals (xs.set i x) (us.set i u)
 |_,_,_,.nil=>.nil
 |_,_,0,.cons _ t=>.cons r t
 |_,_,i+1,.cons q t=>.cons q (Vals.set r i t)
theorem Vals.append:∀{xs ys:List V}{us ws:List Value},Vals xs us->Vals ys ws->Vals (xs++ys) (us++ws)
 |_,_,_,_,.nil,s=>s
 |_,_,_,_,.cons r t,s=>.cons r (Vals.append t s)
theorem Vals.take:∀{xs:List V}{us:List Value}(n:Nat),Vals xs us->Vals (xs.take n) (us.take n)
 |_,_,0,_=>.nil
 |_,_,_+1,.nil=>.nil
 |_,_,n+1,.cons r t=>.cons r (Vals.take n t)
theorem Vals.drop:∀{xs:List V}{us:List Value}(n:Nat),Vals xs us->Vals (xs.drop n) (us.drop n)
 |_,_,0,r=>r
 |_,_,_+1,.nil=>.nil
 |_,_,n+1,.cons _ t=>Vals.drop n t
def RelO:Option V->Option Value->Prop
 |some v,some u=>RelV v u
 |none,none=>True
 |_,_=>False
def KV{κ:Type}:List (κ×V)->List (κ×Value)->Prop:=Paired λ(p:κ×V) (q:κ×Value)=>p.1=q.1/\RelV p.2 q.2
noncomputable def kV:Key->V
 |.inl i=>.int i
 |.inr x=>.str x
inductive HO where
 |lst (xs:List V)
 |tup (xs:List V)
 |dK (kvs:List (Key×V))|dT (kvs:List (List Key×V))
 |set (S:Int->Bool) (n:Nat)
 |ins (C dx:Addr) (fs:List (Str×V))
 |own (x:Addr)
 |xd (fs:List (Str×V))
 |met (f x:Addr)
 |rng (lo hi:Int)
 |frz (o:Obj) (u:HO)
 |tbl (q:Str)
 |ext (φ:Heap->Prop)
noncomputable abbrev Hp:=Addr->Option HO
noncomputable def upd(H:Hp)(a:Addr)(o:HO):Hp:=λb=>if b=a then some o else H b
theorem upd_same{H:Hp}{a:Addr}{o:HO}:upd H a o a=some o:=by unfold upd;rw[if_pos rfl]
theorem upd_ne{H:Hp}{a b:Addr}{o:HO}(h:b≠a):upd H a o b=H b:=by unfold upd;rw[if_neg h]
theorem ne_of_none{H:Hp}{a b:Addr}{o:HO}(h:H a=some o)(h':H b=none):a≠b:=by intro e;subst e;rw[h]at h';cases h'
def CodeOb(oc:Obj)(q:Str):Prop:=∃vs t,oc.data=.fields vs/\vs[1]?=some (.str q t)
section
variable(P:Program)(w:World)
def ObjOk(H:Hp)(h:Heap)(a:Addr):HO->Prop
 |.lst xs=>xs.length<=sizeLine/\∃(its:List Value)(n:Nat),Vals xs its/\h.get? a=some {cls:=.type "list",data:=.seq its.toArray n}
 |.tup xs=>xs.length<=sizeLine/\∃its:List Value,Vals xs its/\IsTup h a its.toArray
 |.dK kvs=>kvs.length<=sizeLine/\(a == sysModules)=false/\∃vs,KV kvs vs/\h.DictOf (mixKind P w) a vs
 | .dT kvs=>kvs.length<=sizeLine/\(a == sysModules)=false/\∃xs:List (List Key×Addr×Value),
   Paired (λ(p:List Key×V) (q:List Key×Addr×Value)=>p.1=q.1/\H q.2.1=some (.tup (p.1.map kV))/\RelV p.2 q.2.2) kvs xs /\
   ∃o es ep,h.get? a=some o/\o.ExactDict/\o.data=.dict es ep/\es.toList=xs.map (entryOfKey (tupleKind (mixKind P w)))/\(xs.map (·.1)).Nodup
 |.set S n=>h.SetOf (intKind P w) a S n
 | .ins C dx fs=>H dx=some (.own a)/\fs.length<=1000/\dx≠a/\h.get? a=some (PySem.W.instObj C dx) /\
   ∃mA,h.Ns1 dx mA/\(∀f,RelO (fs.lookup f) (mA f))/\PySem.Within mA (fs.map (·.1))
 |.own _=>∃o,h.get? a=some o
 |.xd fs=>∃mA,h.Ns1 a mA/\∀f,RelO (fs.lookup f) (mA f)
 |.rng lo hi=>∃ t u v,h.get? a=some {cls:=.type "range",data:=.fields #[.int lo t,.int hi u,.int 1 v] }
 |.frz o u=>h.get? a=some o/\ObjOk H h a u
 |.tbl q=>∃ps:Array Value,h.get? a=some {cls:=.none,data:=.fields ps}/\TriplesOk ps.toList/\∀pos cv,codeAmong pos ps.toList=some cv->∃c' oc,cv=.ref c'/\H c'=some (.frz oc (.own c'))/\CodeOb oc q
 |.met f x=>h.get? a=some (PySem.W.methodObj (.ref f) (.ref x))
 |.ext φ=>φ h/\(∃o,h.get? a=some o)/\∀h1 h2:Heap,φ h1->(∀o,h1.get? a=some o->h2.get? a=some o)->φ h2
def HOk(H:Hp)(h:Heap):Prop:=∀a o,H a=some o->ObjOk P w H h a o
end
section
variable{P:Program}{w:World}{H H':Hp}{h h':Heap}{a:Addr}{o:HO}
theorem ObjOk.lt(x:ObjOk P w H h a o):a<h.objs.size:=by
 cases o with
 |lst xs=>obtain⟨_,_,_,_,e⟩:=x;exact au e
 |tup xs=>obtain⟨_,_,_,p⟩:=x;exact p.lt
 |dK kvs=>obtain⟨_,_,_,_,o,_,_,e,_⟩:=x;exact au e
 |dT kvs=>obtain⟨_,_,_,_,o,_,_,e,_⟩:=x;exact au e
 |set S n=>obtain⟨o,_,_,_,e,_⟩:=x;exact au e
 |ins C dx fs=>obtain⟨_,_,_,e,_⟩:=x;exact au e
 |own y=>obtain⟨_,e⟩:=x;exact au e
 |xd fs=>obtain⟨_,⟨_,_,_,e,_⟩,_⟩:=x;exact au e
 |rng lo hi=>obtain⟨_,_,_,e⟩:=x;exact au e
 |frz ob u=>obtain⟨e,_⟩:=x;exact au e
 |tbl q=>obtain⟨_,e,_⟩:=x;exact au e
 |met f y=>exact au (show h.get? a=some _ from x)
 |ext φ=>obtain⟨_,⟨_,e⟩,_⟩:=x;exact au e
theorem Paired.mapP{α β:Type}{F G:α->β->Prop}:∀{l₁:List α}{l₂:List β},Paired F l₁ l₂->(∀a b,F a b->G a b)->Paired G l₁ l₂
 |_,_,.nil,_=>.nil
 |_,_,.cons r t,f=>.cons (f _ _ r) (Paired.mapP t f)
theorem ObjOk.stay(x:ObjOk P w H h a o)(k:∀b u,(b=a∨H b=some (.own a))->h.get? b=some u->h'.get? b=some u)
  (ho:∀b,H b=some (.own a)->H' b=some (.own a)) (ht:∀b xs,H b=some (.tup xs)->H' b=some (.tup xs)) (hf:∀b o q,CodeOb o q->H b=some (.frz o (.own b))->H' b=some (.frz o (.own b))):ObjOk P w H' h' a o:=by
 induction o with
 |lst xs=>obtain⟨z,its,n,r,e⟩:=x;exact⟨z,its,n,r,k _ _ (.inl rfl) e⟩
 |tup xs=>obtain⟨z,its,r,ob,e,c⟩:=x;exact⟨z,its,r,ob,k _ _ (.inl rfl) e,c⟩
 |dK kvs=>obtain⟨z,y,vs,r,ob,es,ep,e,c⟩:=x;exact⟨z,y,vs,r,ob,es,ep,k _ _ (.inl rfl) e,c⟩
 | dT kvs =>
  obtain⟨z,y,xs,r,ob,es,ep,e,c⟩:=x;exact⟨z,y,xs,Paired.mapP r λp q z=>⟨z.1,ht _ _ z.2.1,z.2.2⟩,ob,es,ep,k _ _ (.inl rfl) e,c⟩
 |set S n=>obtain⟨ob,es,ep,t,e,c⟩:=x;exact⟨ob,es,ep,t,k _ _ (.inl rfl) e,c⟩
 | ins C dx fs =>
  obtain⟨d,z,ne,e,mA,⟨od,es,ep,e2,c⟩,r⟩:=x;exact⟨ho _ d,z,ne,k _ _ (.inl rfl) e,mA,⟨od,es,ep,k _ _ (.inr d) e2,c⟩,r⟩
 |own y=>obtain⟨ob,e⟩:=x;exact⟨ob,k _ _ (.inl rfl) e⟩
 |xd fs=>obtain⟨mA,⟨od,es,ep,e,c⟩,r⟩:=x;exact⟨mA,⟨od,es,ep,k _ _ (.inl rfl) e,c⟩,r⟩
 |rng lo hi=>obtain⟨t,u,v,e⟩:=x;exact⟨t,u,v,k _ _ (.inl rfl) e⟩
 |frz ob u ih=>obtain⟨e,q⟩:=x;exact⟨k _ _ (.inl rfl) e,ih q⟩
 | tbl q =>
  obtain⟨ps,e,tr,m⟩:=x
  exact⟨ps,k a _ (.inl rfl) e,tr,λpos cv z=>let ⟨c',oc,a1,a2,a3⟩:=m pos cv z;⟨c',oc,a1,hf _ _ _ a3 a2,a3⟩⟩
 | met f y =>
  have e:h.get? a=some (PySem.W.methodObj (.ref f) (.ref y)):=x;show h'.get? a=some (PySem.W.methodObj (.ref f) (.ref y));exact k a _ (.inl rfl) e
 |ext φ=>obtain⟨p,⟨o,e⟩,st⟩:=x;exact⟨st _ _ p λo q=>k _ _ (.inl rfl) q,⟨o,k _ _ (.inl rfl) e⟩,st⟩
theorem HOk.lt(x:HOk P w H h)(e:H a=some o):a<h.objs.size:=(x a o e).lt
theorem HOk.fresh(x:HOk P w H h)(e:h.objs.size<=a):H a=none:=by
 cases q:H a with
 |none=>rfl
 |some u=>exact absurd (aj (x.lt q) e) (bY _)
theorem HOk.kept(x:HOk P w H h)(k:∀b u,h.get? b=some u->h'.get? b=some u):HOk P w H h':=λa o e =>
 (x a o e).stay (λb u _ q=>k b u q) (λ_ q=>q) (λ_ _ q=>q) λ_ _ _ _ q=>q
theorem HOk.laid(x:HOk P w H h)(k:∀b u,h.get? b=some u->h'.get? b=some u)(hp:h.objs.size<=a)(new:ObjOk P w (upd H a o) h' a o):HOk P w (upd H a o) h':=λb u e=>by
 have hn:=x.fresh hp;by_cases hb:b=a
 . subst hb;rw[upd_same]at e;cases e;exact new
 . rw[upd_ne hb]at e;exact(x b u e).stay (λc v _ q=>k c v q) (λc q=>by rw[upd_ne (ne_of_none q hn)];exact q) (λc xs q=>by rw[upd_ne (ne_of_none q hn)];exact q) λc ob _ _ q=>by rw[upd_ne (ne_of_none q hn)];exact q
end
def Rd(H:Hp)(a:Addr)(u:HO):Prop:=H a=some u∨∃o,H a=some (.frz o u)
theorem Rd.ok{P:Program}{w:World}{H:Hp}{h:Heap}{a:Addr}{u:HO}(r:Rd H a u)(x:HOk P w H h):ObjOk P w H h a u:=by
 rcases r with r|⟨o,r⟩
 . exact x a u r
 . obtain⟨_,q⟩:=x a _ r;exact q
def Mut:Option HO->Prop
 |some (.lst _)=>True
 |some (.dK _)=>True
 |some (.dT _)=>True
 |some (.set _ _)=>True
 |some (.ins _ _ _)=>True
 |some (.ext _)=>True
 |_=>False
section
variable{P:Program}{w:World}{H:Hp}{h h':Heap}{x e:Addr}{o':HO}
theorem HOk.write(ok:HOk P w H h)(mu:Mut (H x))(he:e=x∨H e=some (.own x))(k:∀b u,b≠e->h.get? b=some u->h'.get? b=some u)(heo:∃u,h'.get? e=some u)
  (new:ObjOk P w (upd H x o') h' x o'):HOk P w (upd H x o') h':=λb u q=>by
 have nown:∀c y,H c=some (.own y)->c≠x:=λc y r z=>by subst z;rw[r]at mu;exact mu
 have ntup:∀c xs,H c=some (.tup xs)->c≠x:=λc xs r z=>by subst z;rw[r]at mu;exact mu
 have nfrz:∀c o u,H c=some (.frz o u)->c≠x:=λc o u r z=>by subst z;rw[r]at mu;exact mu
 by_cases hb:b=x
 . subst hb;rw[upd_same]at q;cases q;exact new
 .
  rw[upd_ne hb]at q;by_cases hbe:b=e
  .
   have q':H b=some (.own x):=by
    rcases he with z|z
    . exact absurd (hbe.trans z) hb
    . rw[hbe];exact z
   rw[q]at q';cases q';obtain⟨v,hv⟩:=heo;exact⟨v,by rw[hbe];exact hv⟩
  .
   refine(ok b u q).stay (λc v hc r=>k c v ?_ r) (λc r=>by rw[upd_ne (nown c b r)];exact r) (λc xs r=>by rw[upd_ne (ntup c xs r)];exact r) λc ob _ _ r=>by rw[upd_ne (nfrz c ob _ r)];exact r
   rcases hc with rfl|hc
   . exact hbe
   .
    rintro rfl;rcases he with z|z
    . exact nown c b hc z
    . rw[hc]at z;cases z;exact hb rfl
end
structure Un (fs ex:List Addr) (H H':Hp) (h h':Heap):Prop where
 keep:∀b o,h.get? b=some o->H b=none->b∉fs->b∉ex->h'.get? b=some o
 slot:∀b o,h.get? b=some o->H b=none->b∈fs->b∉ex->∃sl,h'.get? b=some {o with slots:=sl}
 free:∀b o,h.get? b=some o->H b=none->b∉ex->H' b=none
 there:∀b o,h.get? b=some o->b∉ex->∃o',h'.get? b=some o'
 tups:∀b xs,H b=some (.tup xs)->H' b=some (.tup xs)
 frzs:∀b o u,H b=some (.frz o u)->H' b=some (.frz o u)
 tbls:∀b q,H b=some (.tbl q)->H' b=some (.tbl q)
section
variable{fs fs' ex ex':List Addr}{H H1:Hp}{h h1 h':Heap}{a x e:Addr}{o:HO}
theorem Un.any(u:Un fs ex H H1 h h1){b:Addr}{ob:Obj}(q:h.get? b=some ob)(n:H b=none)(hx:b∉ex):∃sl,h1.get? b=some {ob with slots:=sl}:=by
 by_cases hb:b∈fs
 . exact u.slot b ob q n hb hx
 . exact⟨ob.slots,u.keep b ob q n hb hx⟩
theorem Un.kept(k:∀b u,h.get? b=some u->h'.get? b=some u):Un fs ex H H h h' :=
 ⟨λb ob q _ _ _=>k b ob q,λb ob q _ _ _=>⟨ob.slots,k b ob q⟩,λ_ _ _ n _=>n,λb ob q _=>⟨ob,k b ob q⟩,λ_ _ q=>q,λ_ _ _ q=>q,λ_ _ q=>q⟩
theorem Un.refl:Un fs ex H H h h:=Un.kept λ_ _ q=>q
theorem Un.laid(k:∀b u,h.get? b=some u->h'.get? b=some u)(hp:h.objs.size<=a)(hn:H a=none):Un fs ex H (upd H a o) h h' where
 keep:=λb u q _ _ _=>k b u q
 slot:=λb u q _ _ _=>⟨u.slots,k b u q⟩
 free:=λb u q n _=>by rw[upd_ne (aR (aj (au q) hp))];exact n
 there:=λb u q _=>⟨u,k b u q⟩
 tups:=λb xs q=>by rw[upd_ne (ne_of_none q hn)];exact q
 frzs:=λb u xs q=>by rw[upd_ne (ne_of_none q hn)];exact q
 tbls:=λb ps q=>by rw[upd_ne (ne_of_none q hn)];exact q
theorem Un.write(mu:Mut (H x))(he:e=x∨H e=some (.own x))(k:∀b u,b≠e->h.get? b=some u->h'.get? b=some u)(heo:∃u,h'.get? e=some u):Un fs ex H (upd H x o) h h':=by
 have hx:∀b,H b=none->b≠x:=λb n z=>by subst z;rw[n]at mu;exact mu
 have hb:∀b,H b=none->b≠e:=λb n z=>by
  subst z;rcases he with r|r
  . exact hx b n r
  . rw[n]at r;cases r
 have hm:∀b u,H b=some u->¬Mut (some u)->b≠x:=λb u q nm z=>by subst z;rw[q]at mu;exact nm mu
 refine⟨λb u q n _ _=>k b u (hb b n) q,λb u q n _ _=>⟨u.slots,k b u (hb b n) q⟩,λb u q n _=>by rw[upd_ne (hx b n)];exact n,λb u q _=>?_,
  λb xs q=>by rw[upd_ne (hm b _ q λz=>z)];exact q,λb u xs q=>by rw[upd_ne (hm b _ q λz=>z)];exact q,λb ps q=>by rw[upd_ne (hm b _ q λz=>z)];exact q⟩
 by_cases hbe:b=e
 . subst hbe;exact heo
 . exact⟨u,k b u hbe q⟩
theorem Un.mono(u:Un fs ex H H1 h h1)(hs:∀b∈fs,b∈fs')(hx:∀b∈ex,b∈ex'):Un fs' ex' H H1 h h1 :=
 ⟨λb ob q n hb he=>u.keep b ob q n (λz=>hb (hs b z)) λz=>he (hx b z),λ_ _ q n _ he=>u.any q n λz=>he (hx _ z),λb ob q n he=>u.free b ob q n λz=>he (hx b z),λb ob q he=>u.there b ob q λz=>he (hx b z),u.tups,u.frzs,u.tbls⟩
end
noncomputable def trk(h:Heap)(H:Hp):List Addr:=(List.range h.objs.size).filter λa=>(H a).isSome
noncomputable def hidT(h:Heap)(H:Hp):Heap:=PySem.W.hideAll h (trk h H)
theorem hidT_size(h:Heap)(H:Hp):(hidT h H).objs.size=h.objs.size:=PySem.W.hideAll_size _ _
theorem hidT_get{h:Heap}{H:Hp}{b:Addr}{o:Obj}(e:h.get? b=some o)(n:H b=none):(hidT h H).get? b=some o :=
 PySem.W.hideAll_get _ e λhm=>by have q:(H b).isSome=true:=(List.mem_filter.mp hm).2;rw[n]at q;simp at q
theorem of_hidT{h:Heap}{H:Hp}{b:Addr}{o:Obj}(e:(hidT h H).get? b=some o):h.get? b=some o/\H b=none:=by
 have e':h.get? b=some o:=PySem.W.of_hideAll (trk h H) e;refine⟨e',?_⟩
 cases q:H b with
 |none=>rfl
 | some x =>
  have hm:b∈trk h H:=List.mem_filter.mpr ⟨List.mem_range.mpr (au e'),by simp[q]⟩;have z:(hidT h H).get? b=none:=PySem.W.hideAll_none (trk h H) hm;rw[z]at e;cases e
noncomputable def allNews(g h:Heap)(L:Addr):List (Addr×Obj):=(List.range h.objs.size).filterMap λa=>if a=L∨(g.get? a).isSome=true then none else(h.get? a).map λo=>(a,o)
noncomputable def rest(g h:Heap)(L d:Addr):List (Addr×Obj):=(allNews g h L).filter λp=>decide (p.1≠d)
def BMain(mg:Str->Option Value)(h:Heap):Prop:=∃ bm ob,mg "__builtins__"=some (.ref bm)/\bm≠builtinsNs/\h.get? bm=some ob/\ob.cls=.type "module"/\ob.dict=some builtinsNs/\ob.data=.plain
noncomputable def lamNames:List Str:=["look_at_asks","by_lesser_place","look_at_string"]
noncomputable def lamQ(x:Str):Str:=(x++".<locals>.")++"<lambda>"
def Tbs(K:PySem.W.Frag)(H:Hp):Prop:=∀x∈lamNames,∀c P,PySem.W.tabIn K x=some (c,P)->H P=some (.tbl (lamQ x))
theorem Tbs.un{K:PySem.W.Frag}{fs ex:List Addr}{H H':Hp}{h h':Heap}(t:Tbs K H)(u:Un fs ex H H' h h'):Tbs K H':=λx hx c P e=>u.tbls _ _ (t x hx c P e)
structure Mod (K:PySem.W.Frag) (mg:Str->Option Value) (base:Heap):Prop where
 kin:K.In base
 glob:base.Ns mainGlobals mg
 blt:∃ mb,base.Ns builtinsNs mb/\∀ x:Str,x≠"__name__"->mb x=bootBuiltins x
 nolimit:base.NoLimit
 sysm:∃mm,base.Ns sysModules mm
 bmn:BMain mg base
 cds:∀x∈lamNames,∀c P,PySem.W.tabIn K x=some (c,P)->PySem.W.CodeHd base c P
/-- the context: a def's body (or a comprehension's block) running. base: fixed through the whole law;s₀,H₀: the entry;outer: the frames whose slots others may change (a def's callers);stack: all frames that run;
  ex: iterators that were made ahead of the entry and are walked here (a comprehension's);fn: the names whose cells were made at the entry (a def: all;a comprehension's block: its own);calm: not within an except suite;pn: ae that every state bears;xe: what is wanted of an exception that leaves the code -/
structure Cx where
 prog:Program
 w:World
 K:PySem.W.Frag
 mg:Str->Option Value
 base:Heap
 A:Around
 N:List Str
 s₀:Shared
 H₀:Hp
 env:Env
 outer:List Env
 stack:List Env
 ex:List Addr
 fn:Str->Bool
 calm:Bool
 pn:List (Addr×Obj)
 xe:Value->Shared->Prop
noncomputable def frs(l:List Env):List Addr:=l.filterMap (·.frame)
noncomputable abbrev Cx.fs(X:Cx):List Addr:=frs X.outer
def Vis(sc:Scope)(x:Str):Prop:=sc.names.lookup x=some .local∨sc.names.lookup x=some .cell∨sc.names.lookup x=some .free
def Loc(sc:Scope)(x:Str):Prop:=sc.names.lookup x=some .local∨sc.names.lookup x=some .cell
def Look(env:Env)(h:Heap)(m:Str->Option Value)(x:Str)(u:Value):Prop :=
 (env.kindOf x=some .local/\m x=some u)∨((env.kindOf x=some .cell∨env.kindOf x=some .free)/\∃c,env.cells.lookup x=some c/\h.IsCell c (some u))
structure Cx.Ok (X:Cx):Prop where
 mod:Mod X.K X.mg X.base
 kind:X.env.scope.kind=.function
 glob:X.env.globals=mainGlobals
 blt:X.env.builtins=builtinsNs
 above:X.s₀.heap.objs.size<=X.env.locals
 inj:∀x y c,X.env.cells.lookup x=some c->X.env.cells.lookup y=some c->x=y
 has:∀x,(X.env.kindOf x=some .cell∨X.env.kindOf x=some .free)->∃c,X.env.cells.lookup x=some c
 cab:∀x c,X.fn x=true->X.env.cells.lookup x=some c->X.s₀.heap.objs.size<=c
 hd:X.calm=true->X.A.handled=none
 frames:X.A.frames=some X.stack
 stk:X.stack=X.outer∨(X.stack=X.env::X.outer/\X.env.frame=some X.env.locals)
 exf:∀b∈X.ex,b≠X.env.locals/\∀x c,X.env.cells.lookup x=some c->c≠b
 bs:∀b o,X.base.get? b=some o->X.s₀.heap.get? b=some o/\X.H₀ b=none
 bsz:X.base.objs.size<=X.s₀.heap.objs.size
 noex:∀b o,X.base.get? b=some o->b∉X.ex
 exfs:∀b∈X.ex,b∉X.fs
 funs:X.s₀.heap.FunFrames X.base X.outer
 frf:∀b∈X.fs,X.H₀ b=none
 tbs:Tbs X.K X.H₀
structure Inv (X:Cx) (ae:List (Addr×Obj)) (σ:List (Option V)) (H:Hp) (s:Shared):Prop where
 ok:X.Ok
 os:s.os=X.s₀.os
 bare:AllBare s.gens
 base:Un X.fs X.ex X.H₀ H X.s₀.heap s.heap
 loc:∃m,s.heap.Ns X.env.locals m/\∀(i:Nat)(x:Str)(v:V),X.N[i]?=some x->σ[i]?=some (some v)->Vis X.env.scope x->∃u,RelV v u/\Look X.env s.heap m x u
 cell:∀x c,X.env.cells.lookup x=some c->∃v,s.heap.IsCell c v
 free:H X.env.locals=none
 freeC:∀x c,X.env.cells.lookup x=some c->H c=none∨(X.fn x=false/\∃o,H c=some (.frz o (.own c)))
 pin:∀p∈X.pn++ae,s.heap.get? p.1=some p.2/\H p.1=none/\p.1≠X.env.locals/\p.1∉X.fs/\∀v,p.2.data≠.cell v
 hok:HOk X.prog X.w H s.heap
 len:σ.length=X.N.length
section
variable{X:Cx}{ae:List (Addr×Obj)}{σ:List (Option V)}{H H':Hp}{s:Shared}{h':Heap}
theorem Cx.Ok.nofr(ok:X.Ok){b:Addr}{o:Obj}(e:X.base.get? b=some o):b∉X.fs:=λhb=>by have:=(ok.funs.mem hb).1;rw[e]at this;cases this
theorem Inv.bs(I:Inv X ae σ H s):∀b o,X.base.get? b=some o->s.heap.get? b=some o/\H b=none:=λb o e =>
 ⟨I.base.keep b o (I.ok.bs b o e).1 (I.ok.bs b o e).2 (I.ok.nofr e) (I.ok.noex b o e),I.base.free b o (I.ok.bs b o e).1 (I.ok.bs b o e).2 (I.ok.noex b o e)⟩
theorem Inv.bk(I:Inv X ae σ H s):∀b o,X.base.get? b=some o->s.heap.get? b=some o:=λb o e=>(I.bs b o e).1
theorem Inv.tbs(I:Inv X ae σ H s):Tbs X.K H:=I.ok.tbs.un I.base
theorem Inv.mod(I:Inv X ae σ H s):Mod X.K X.mg X.base:=I.ok.mod
theorem Inv.kIn(I:Inv X ae σ H s):X.K.In s.heap:=I.ok.mod.kin.keeps I.bk
theorem Inv.fr(I:Inv X ae σ H s):∃m,Fr X.base X.env.locals s.heap m :=
 let ⟨m,hn,_⟩:=I.loc
 ⟨m,hn,I.bk,aG I.ok.bsz I.ok.above⟩
theorem Inv.lt(I:Inv X ae σ H s):X.env.locals<s.heap.objs.size:=let ⟨_,hn,_⟩:=I.loc;hn.lt
theorem Inv.sz(I:Inv X ae σ H s):X.s₀.heap.objs.size<=s.heap.objs.size:=aG I.ok.above (Nat.le_of_lt I.lt)
theorem Inv.nofs(I:Inv X ae σ H s){a:Addr}(h:s.heap.objs.size<=a):a∉X.fs:=λhb=>by obtain⟨_,o,ho,_⟩:=I.ok.funs.mem hb;exact absurd (aj (au ho) (aG I.sz h)) (bY _)
theorem Inv.cne(I:Inv X ae σ H s):∀x c,X.env.cells.lookup x=some c->c≠X.env.locals:=λx c e z=>by obtain⟨v,o,ho,hd⟩:=I.cell x c e;obtain⟨m,⟨o',es,ep,ho',hd',_⟩,_⟩:=I.loc;rw[z,ho']at ho;cases ho;rw[hd']at hd;cases hd
theorem Inv.funs(I:Inv X ae σ H s):s.heap.FunFrames X.base X.outer:=by
 have all:∀(l:List Env),(∀b∈frs l,b∈X.fs)->X.s₀.heap.FunFrames X.base l->s.heap.FunFrames X.base l:=by
  intro l
  induction l with
  |nil=>intro _ _;trivial
  | cons env r ih =>
   intro hs hl;obtain⟨hk,⟨L,o,hf,hn,ho,hd⟩,hr⟩:=hl;have hL:L∈X.fs:=hs L (by unfold frs;rw[b9,hf];exact ao);obtain⟨sl,e⟩:=I.base.slot L o ho (I.ok.frf L hL) hL λz=>I.ok.exfs L z hL;exact⟨hk,⟨L,_,hf,hn,e,hd⟩,ih (λb hb=>hs b (by unfold frs;rw[b9,hf];exact ai _ hb)) hr⟩
 exact all X.outer (λ_ hb=>hb) I.ok.funs
theorem Inv.stack(I:Inv X ae σ H s):s.heap.FunFrames X.base X.stack:=by
 rcases I.ok.stk with e|⟨e,hf⟩
 . rw[e];exact I.funs
 . rw[e];obtain⟨m,hn,_⟩:=I.loc;refine .cons (by rw[I.ok.kind];decide) hf hn ?_ I.funs;exact Heap.get?_none_of_le (aG I.ok.bsz I.ok.above)
theorem Inv.stkSub(I:Inv X ae σ H s):∀b∈frs X.stack,b∈X.env.locals::X.fs:=λb hb=>by
 rcases I.ok.stk with e|⟨e,hf⟩
 . rw[e]at hb;exact ai _ hb
 . rw[e]at hb;unfold frs at hb;rw[b9,hf]at hb;exact hb
theorem Inv.stkFree(I:Inv X ae σ H s):∀b∈frs X.stack,H b=none:=λb hb=>by
 rcases aD.mp (I.stkSub b hb)with e|hb
 . rw[e];exact I.free
 . obtain⟨_,o,ho,_⟩:=I.ok.funs.mem hb;exact I.base.free b o ho (I.ok.frf b hb) λz=>I.ok.exfs b z hb
theorem Inv.step{g':Array GenState}{t':Nat}{d':Drawn}{ch:List Addr}(I:Inv X ae σ H s)
  (hch:∀b∈ch,(b∈X.ex∨X.s₀.heap.objs.size<=b)/\b≠X.env.locals/\(∀x c,X.env.cells.lookup x=some c->c≠b)/\∀p∈X.pn++ae,p.1≠b)
  (keep:∀b o,b≠X.env.locals->b∉X.fs->b∉ch->s.heap.get? b=some o->H b=none->h'.get? b=some o)
  (slot:∀b o,b≠X.env.locals->b∈X.fs->b∉ch->s.heap.get? b=some o->H b=none->∃sl,h'.get? b=some {o with slots:=sl}) (free:∀b o,b∉ch->s.heap.get? b=some o->H b=none->H' b=none)
  (there:∀b o,b∉ch->s.heap.get? b=some o->∃o',h'.get? b=some o')
  (tups:∀b xs,H b=some (.tup xs)->H' b=some (.tup xs)) (frzs:∀b o u,H b=some (.frz o u)->H' b=some (.frz o u)) (tbls:∀b q,H b=some (.tbl q)->H' b=some (.tbl q))
  (ns:∀m,s.heap.Ns X.env.locals m->h'.Ns X.env.locals m) (hok:HOk X.prog X.w H' h') (hg:AllBare g') :
  Inv X ae σ H' {s with heap:=h',gens:=g',drawn:=d',toks:=t' }:=by
 have neL:∀b o,X.s₀.heap.get? b=some o->b≠X.env.locals:=λb o e=>aR (aj (au e) I.ok.above)
 have neC:∀b o,X.s₀.heap.get? b=some o->b∉X.ex->b∉ch:=λb o e hx hb=>by
  rcases(hch b hb).1 with z|z
  . exact hx z
  . exact absurd (aj (au e) z) (bY _)
 have cellK:∀x c,X.env.cells.lookup x=some c->∀v,s.heap.IsCell c v->h'.IsCell c v:=λx c e v ⟨o,ho,hd⟩=>by
  have nch:c∉ch:=λz=>(hch c z).2.2.1 x c e rfl;rcases I.freeC x c e with hn|⟨_,o2,hz⟩
  .
   by_cases hc:c∈X.fs
   . obtain⟨sl,q⟩:=slot c o (I.cne x c e) hc nch ho hn;exact⟨_,q,hd⟩
   . exact⟨o,keep c o (I.cne x c e) hc nch ho hn,hd⟩
  . have e1:=(I.hok c _ hz).1;rw[ho]at e1;cases e1;exact⟨o,(hok c _ (frzs c _ _ hz)).1,hd⟩
 refine⟨I.ok,I.os,hg,⟨λb o e n hb hx=>?_,λb o e n hb hx=>?_,λb o e n hx=>?_,λb o e hx=>?_,λb xs e=>tups b xs (I.base.tups b xs e),λb o xs e=>frzs b o xs (I.base.frzs b o xs e),λb ps e=>?_⟩,?_,λx c e=>?_,?_,λx c e=>?_,λp hp=>?_,hok,I.len⟩
 . exact keep b o (neL b o e) hb (neC b o e hx) (I.base.keep b o e n hb hx) (I.base.free b o e n hx)
 . obtain⟨sl,e1⟩:=I.base.slot b o e n hb hx;obtain⟨sl',e2⟩:=slot b _ (neL b o e) hb (neC b o e hx) e1 (I.base.free b o e n hx);exact⟨sl',e2⟩
 . obtain⟨o',e1⟩:=I.base.there b o e hx;exact free b o' (neC b o e hx) e1 (I.base.free b o e n hx)
 . obtain⟨o',e1⟩:=I.base.there b o e hx;exact there b o' (neC b o e hx) e1
 . exact tbls b ps (I.base.tbls b ps e)
 .
  obtain⟨m,hn,hl⟩:=I.loc;refine⟨m,ns m hn,λi x v e1 e2 e3=>?_⟩;obtain⟨u,r,l⟩:=hl i x v e1 e2 e3;refine⟨u,r,?_⟩;rcases l with l|⟨k,c,e,z⟩
  . exact .inl l
  . exact .inr ⟨k,c,e,cellK x c e _ z⟩
 . obtain⟨v,z⟩:=I.cell x c e;exact⟨v,cellK x c e v z⟩
 . obtain⟨m,⟨o,_,_,ho,_⟩,_⟩:=I.loc;exact free _ o (λz=>(hch _ z).2.1 rfl) ho I.free
 .
  obtain⟨v,o,ho,hd⟩:=I.cell x c e;rcases I.freeC x c e with hn|⟨hf,o2,hz⟩
  . exact .inl (free c o (λz=>(hch c z).2.2.1 x c e rfl) ho hn)
  . exact .inr ⟨hf,o2,frzs c _ _ hz⟩
 . obtain⟨e,n,ne,nf,d⟩:=I.pin p hp;have nch:p.1∉ch:=λz=>(hch p.1 z).2.2.2 p hp rfl;exact⟨keep p.1 p.2 ne nf nch e n,free p.1 p.2 nch e n,ne,nf,d⟩
theorem Inv.un{t':Nat}(I:Inv X ae σ H s)(u:Un X.fs [] H H' s.heap h')(hok:HOk X.prog X.w H' h'):Inv X ae σ H' {s with heap:=h',toks:=t' }:=by
 obtain⟨m,⟨o,es,ep,ho,r⟩,_⟩:=id I.loc;obtain⟨sl,hL⟩:=u.any ho I.free zY
 exact I.step (g':=s.gens) (d':=s.drawn) (ch:=[]) (λ_ z=>nomatch z) (λb o _ hb _ e n=>u.keep b o e n hb zY) (λb o _ hb _ e n=>u.slot b o e n hb zY) (λb o _ e n=>u.free b o e n zY) (λb o _ e=>u.there b o e zY) u.tups u.frzs u.tbls (λm' hm=>by
  obtain⟨o',es',ep',ho',r'⟩:=hm;rw[ho]at ho';cases ho'
  exact⟨_,es',ep',hL,r'⟩) hok I.bare
theorem Inv.call{g':Array GenState}{t':Nat}{d':Drawn}{ch:List Addr}(I:Inv X ae σ H s)(u:Un (frs X.stack) ch H H' s.heap h')(hok:HOk X.prog X.w H' h')(hg:AllBare g')
  (hch:∀b∈ch,(b∈X.ex∨X.s₀.heap.objs.size<=b)/\b≠X.env.locals/\(∀x c,X.env.cells.lookup x=some c->c≠b)/\∀p∈X.pn++ae,p.1≠b) :
  Inv X ae σ H' {s with heap:=h',gens:=g',drawn:=d',toks:=t' }:=by
 obtain⟨m,⟨o,es,ep,ho,r⟩,_⟩:=id I.loc;obtain⟨sl,hL⟩:=u.any ho I.free λz=>(hch _ z).2.1 rfl
 exact I.step (ch:=ch) hch (λb o hL hb hc e n=>u.keep b o e n (λz=>(aD.mp (I.stkSub b z)).elim hL hb) hc) (λb o _ _ hc e n=>u.any e n hc) (λb o hc e n=>u.free b o e n hc) (λb o hc e=>u.there b o e hc) u.tups u.frzs u.tbls (λm' hm=>by
  obtain⟨o',es',ep',ho',r'⟩:=hm;rw[ho]at ho';cases ho'
  exact⟨_,es',ep',hL,r'⟩) hok hg
theorem Inv.turned{t':Nat}{it:Addr}(I:Inv X ae σ H s)(k:∀b o,b≠it->s.heap.get? b=some o->h'.get? b=some o)(hn:H it=none)(hL:it≠X.env.locals)
  (h1:it∈X.ex∨X.s₀.heap.objs.size<=it) (h2:∀x c,X.env.cells.lookup x=some c->c≠it) (h3:∀p∈X.pn++ae,p.1≠it):Inv X ae σ H {s with heap:=h',toks:=t' }:=by
 have nit:∀b u,H b=some u->b≠it:=λb u e z=>by rw[z,hn]at e;cases e
 refine I.step (g':=s.gens) (d':=s.drawn) (ch:=[it]) (λb hb=>?_) (λb o _ _ hc e _=>k b o (λz=>hc (by simp[z])) e) (λb o _ _ hc e _=>⟨o.slots,k b o (λz=>hc (by simp[z])) e⟩) (λ_ _ _ _ n=>n)
  (λb o hc e=>⟨o,k b o (λz=>hc (by simp[z])) e⟩) (λ_ _ e=>e) (λ_ _ _ e=>e) (λ_ _ e=>e) (λm hm=>?_) (λb u e=>?_) I.bare
 .
  have e:b=it:=by simpa using hb
  subst e;exact⟨h1,hL,h2,h3⟩
 . obtain⟨o,es,ep,ho,r⟩:=hm;exact⟨o,es,ep,k _ o (bN hL) ho,r⟩
 .
  refine(I.hok b u e).stay (λc v hc q=>k c v ?_ q) (λ_ q=>q) (λ_ _ q=>q) λ_ _ _ _ q=>q;rcases hc with z|z
  . rw[z];exact nit b u e
  . exact nit c _ z
theorem Inv.tok(I:Inv X ae σ H s)(t:Nat):Inv X ae σ H {s with toks:=t}:=I.un (h':=s.heap) (t':=t) Un.refl I.hok
theorem Inv.kept{t':Nat}(I:Inv X ae σ H s)(k:∀b u,s.heap.get? b=some u->h'.get? b=some u):Inv X ae σ H {s with heap:=h',toks:=t' }:=I.un (Un.kept k) (I.hok.kept k)
theorem Inv.laid{a:Addr}{o:HO}{t':Nat}(I:Inv X ae σ H s)(k:∀b u,s.heap.get? b=some u->h'.get? b=some u)(hp:s.heap.objs.size<=a)(new:ObjOk X.prog X.w (upd H a o) h' a o) :
  Inv X ae σ (upd H a o) {s with heap:=h',toks:=t' }:=I.un (Un.laid k hp (I.hok.fresh hp)) (I.hok.laid k hp new)
theorem Inv.write{x e:Addr}{o:HO}{t':Nat}(I:Inv X ae σ H s)(mu:Mut (H x))(he:e=x∨H e=some (.own x))(k:∀b u,b≠e->s.heap.get? b=some u->h'.get? b=some u)(heo:∃u,h'.get? e=some u)
  (new:ObjOk X.prog X.w (upd H x o) h' x o):Inv X ae σ (upd H x o) {s with heap:=h',toks:=t' }:=I.un (Un.write mu he k heo) (I.hok.write mu he k heo new)
theorem Inv.pins_of{pins':List (Addr×Obj)}(I:Inv X ae σ H s)(h:∀p∈pins',s.heap.get? p.1=some p.2/\H p.1=none/\p.1≠X.env.locals/\p.1∉X.fs/\∀v,p.2.data≠.cell v):Inv X pins' σ H s :=
 ⟨I.ok,I.os,I.bare,I.base,I.loc,I.cell,I.free,I.freeC,λp hp=>(aH.mp hp).elim (λz=>I.pin p (av _ z)) (h p),I.hok,I.len⟩
theorem nodup_ix{N:List Str}(hN:N.Nodup){i j:Nat}{x:Str}(a:N[i]?=some x)(b:N[j]?=some x):i=j:=by obtain⟨h1,e1⟩:=ak.mp a;obtain⟨h2,e2⟩:=ak.mp b;exact(List.getElem_inj hN).mp (e1.trans e2.symm)
theorem store_ok2{M:Model}{A:Around}{E:Value->Shared->Prop}{i:Nat}{x:Str}{v:V}{u:Value}{Q:Unit->Shared->Prop}(I:Inv X ae σ H s)(hN:X.N.Nodup)(hi:X.N[i]?=some x)(hx:Loc X.env.scope x)(r:RelV v u)
  (h:∀s',Inv X ae (σ.set i (some v)) H s'->(∃a,Heap.SameBut a s.heap s'.heap/\(a=X.env.locals∨X.env.cells.lookup x=some a))->Q () s') (hf:X.fn x=true∨X.env.scope.names.lookup x=some .local:=by first|exact .inl rfl|exact .inr rfl|assumption):wpAny M A (storeName X.env x u) Q E s:=by
 obtain⟨m,hn,hl⟩:=id I.loc;have hcls:(X.env.scope.kind == .class ||(X.env.scope.kind == .module && X.env.locals != X.env.globals))=false:=by rw[I.ok.kind];rfl
 have hiσ:i<σ.length:=by rw[I.len];exact(ak.mp hi).1
 have cne:=I.cne
 have tracked:∀{a:Addr}{h':Heap},(∃o,s.heap.get? a=some o/\H a=none)->Heap.SameBut a s.heap h'->HOk X.prog X.w H h':=λ{a h'} ha hs b ob e=>by
  obtain⟨_,_,hfree⟩:=ha;refine(I.hok b ob e).stay (λc w' hc q=>(hs.2 c ?_).trans q) (λ_ q=>q) (λ_ _ q=>q) λ_ _ _ _ q=>q;rintro rfl;rcases hc with rfl|hc
  . rw[hfree]at e;cases e
  . rw[hfree]at hc;cases hc
 rcases hx with hk|hk
 .
  refine wpAny_storeName_local hk hn (λh' hn' hs=>?_) hcls;obtain⟨oL,_,_,hoL,_⟩:=id hn;refine h _ ⟨I.ok,I.os,I.bare,⟨λb o e n hb hx=>?_,λb o e n hb hx=>?_,I.base.free,λb o e hx=>?_,I.base.tups,I.base.frzs,I.base.tbls⟩,⟨_,hn',λj y v' e1 e2 e3=>?_⟩,λy c e=>?_,I.free,I.freeC,λp hp=>?_,tracked ⟨oL,hoL,I.free⟩ hs,by simpa using I.len⟩ ⟨_,hs,.inl rfl⟩
  . exact(hs.2 b (aR (aj (au e) I.ok.above))).trans (I.base.keep b o e n hb hx)
  . obtain⟨sl,e1⟩:=I.base.slot b o e n hb hx;exact⟨sl,(hs.2 b (aR (aj (au e) I.ok.above))).trans e1⟩
  . obtain⟨o',e1⟩:=I.base.there b o e hx;exact⟨o',(hs.2 b (aR (aj (au e) I.ok.above))).trans e1⟩
  .
   by_cases hj:j=i
   . subst hj;rw[hi]at e1;cases e1;rw[a7 hiσ]at e2;cases e2;exact⟨u,r,.inl ⟨hk,zY⟩⟩
   .
    rw[bo (bN hj)]at e2;obtain⟨u',r',q⟩:=hl j y v' e1 e2 e3;refine⟨u',r',?_⟩;rcases q with⟨k,e⟩|⟨k,c,e,z⟩
    . refine .inl ⟨k,?_⟩;have:y≠x:=λe=>hj (nodup_ix hN e1 (e ▸ hi));simp[this,e]
    . exact .inr ⟨k,c,e,z.sameBut hs (cne y c e)⟩
  . obtain⟨w',z⟩:=I.cell y c e;exact⟨w',z.sameBut hs (cne y c e)⟩
  . obtain⟨e,n,ne,nf,d⟩:=I.pin p hp;exact⟨(hs.2 p.1 ne).trans e,n,ne,nf,d⟩
 .
  have hfn:X.fn x=true:=by
   rcases hf with z|z
   . exact z
   . rw[z]at hk;cases hk
  obtain⟨c,hc⟩:=I.ok.has x (.inl hk);obtain⟨w',z⟩:=I.cell x c hc;refine wpAny_storeName_cell I.ok.kind hk hc z (λh' hc' hs=>?_);obtain⟨oc,hoc,hocd⟩:=id z;refine h {s with heap:=h' } ⟨I.ok,I.os,I.bare,⟨λb o e n hb hx=>?_,λb o e n hb hx=>?_,I.base.free,λb o e hx=>?_,I.base.tups,I.base.frzs,I.base.tbls⟩,⟨m,hn.sameBut hs (bN (cne x c hc)),λj y v' e1 e2 e3=>?_⟩,λy c' e=>?_,I.free,I.freeC,λp hp=>?_,tracked ⟨oc,hoc,(I.freeC x c hc).resolve_right λz=>by rw[hfn]at z;exact absurd z.1 ze⟩ hs,by simpa using I.len⟩ ⟨c,hs,.inr hc⟩
  . exact(hs.2 b (aR (aj (au e) (I.ok.cab x c hfn hc)))).trans (I.base.keep b o e n hb hx)
  . obtain⟨sl,e1⟩:=I.base.slot b o e n hb hx;exact⟨sl,(hs.2 b (aR (aj (au e) (I.ok.cab x c hfn hc)))).trans e1⟩
  . obtain⟨o',e1⟩:=I.base.there b o e hx;exact⟨o',(hs.2 b (aR (aj (au e) (I.ok.cab x c hfn hc)))).trans e1⟩
  .
   by_cases hj:j=i
   . subst hj;rw[hi]at e1;cases e1;rw[a7 hiσ]at e2;cases e2;exact⟨u,r,.inr ⟨.inl hk,c,hc,hc'⟩⟩
   .
    rw[bo (bN hj)]at e2;obtain⟨u',r',q⟩:=hl j y v' e1 e2 e3;refine⟨u',r',?_⟩;rcases q with q|⟨k,c',e,z'⟩
    . exact .inl q
    . refine .inr ⟨k,c',e,z'.sameBut hs ?_⟩;rintro rfl;exact hj (nodup_ix hN e1 (I.ok.inj _ _ _ e hc ▸ hi))
  .
   by_cases hcc:c'=c
   . subst hcc;exact⟨_,hc'⟩
   . obtain⟨w2,z2⟩:=I.cell y c' e;exact⟨w2,z2.sameBut hs hcc⟩
  . obtain⟨e,n,ne,nf,d⟩:=I.pin p hp;refine⟨(hs.2 p.1 ?_).trans e,n,ne,nf,d⟩;intro q;rw[q,hoc]at e;have q':oc=p.2:=aW e;exact d w' (by rw[<- q'];exact hocd)
theorem store_ok{M:Model}{A:Around}{E:Value->Shared->Prop}{i:Nat}{x:Str}{v:V}{u:Value}{Q:Unit->Shared->Prop}(I:Inv X ae σ H s)(hN:X.N.Nodup)(hi:X.N[i]?=some x)(hx:Loc X.env.scope x)(r:RelV v u)
  (h:∀s',Inv X ae (σ.set i (some v)) H s'->Q () s') (hf:X.fn x=true∨X.env.scope.names.lookup x=some .local:=by first|exact .inl rfl|exact .inr rfl|assumption):wpAny M A (storeName X.env x u) Q E s :=
 store_ok2 I hN hi hx r (λs' I' _=>h s' I') hf
theorem Inv.call'{s':Shared}{ch:List Addr}(I:Inv X ae σ H s)(ho:s'.os=s.os)(u:Un (frs X.stack) ch H H' s.heap s'.heap)(hok:HOk X.prog X.w H' s'.heap)(hg:AllBare s'.gens)
  (hch:∀b∈ch,(b∈X.ex∨X.s₀.heap.objs.size<=b)/\b≠X.env.locals/\(∀x c,X.env.cells.lookup x=some c->c≠b)/\∀p∈X.pn++ae,p.1≠b):Inv X ae σ H' s':=by
 obtain⟨h',g',d',t',o'⟩:=s';have e:o'=s.os:=ho;subst e;exact I.call (g':=g') (t':=t') (d':=d') u hok hg hch
end
noncomputable abbrev XK:=Value->Option Addr->Hp->Prop
noncomputable abbrev St:=List (Option V)
noncomputable abbrev VK:=V->Hp->Prop
abbrev TE:=St->Hp->VK->Prop
noncomputable abbrev TT:=St->Hp->(Bool->Hp->Prop)->Prop
noncomputable abbrev TA:=St->Hp->(List V->Hp->Prop)->Prop
structure Ends where
 nx:St->Hp->Prop
 rt:VK
 bk:St->Hp->Prop:=λ_ _=>False
 ct:St->Hp->Prop:=λ_ _=>False
abbrev TS:=Ends->St->Hp->Prop
def EP(X:Cx)(ae:List (Addr×Obj))(σ:St)(Q:VK)(u:Value)(s':Shared):Prop:=∃v H',Inv X ae σ H' s'/\RelV v u/\Q v H'
def TP(X:Cx)(ae:List (Addr×Obj))(σ:St)(Q:Bool->Hp->Prop)(b:Bool)(s':Shared):Prop:=∃H',Inv X ae σ H' s'/\Q b H'
def AP(X:Cx)(ae:List (Addr×Obj))(σ:St)(Q:List V->Hp->Prop)(us:List Value)(s':Shared):Prop:=∃vs H',Inv X ae σ H' s'/\Vals vs us/\Q vs H'
def SP(X:Cx)(ae:List (Addr×Obj))(D:Ends)(f:Flow)(s':Shared):Prop :=
 match f with
 |.next=>∃σ' H',Inv X ae σ' H' s'/\D.nx σ' H'
 |.brk=>∃σ' H',Inv X ae σ' H' s'/\D.bk σ' H'
 |.cont=>∃σ' H',Inv X ae σ' H' s'/\D.ct σ' H'
 |.ret u=>∃v σ' H',Inv X ae σ' H' s'/\RelV v u/\D.rt v H'
def PE(X:Cx)(e:Expr)(t:TE):Prop :=
 ∀(ae:List (Addr×Obj))(s:Shared)(σ:St)(H:Hp)(Q:VK),Inv X ae σ H s->t σ H Q->wpAny (model X.prog X.w) X.A (eval e X.env) (EP X ae σ Q) X.xe s
def PT(X:Cx)(e:Expr)(t:TT):Prop :=
 ∀(ae:List (Addr×Obj))(s:Shared)(σ:St)(H:Hp)(Q:Bool->Hp->Prop),Inv X ae σ H s->t σ H Q->wpAny (model X.prog X.w) X.A (isTrue e X.env (eval e X.env)) (TP X ae σ Q) X.xe s
def PA(X:Cx)(es:List Expr)(t:TA):Prop :=
 ∀(pos:Pos)(ae:List (Addr×Obj))(s:Shared)(σ:St)(H:Hp)(Q:List V->Hp->Prop),Inv X ae σ H s->t σ H Q->wpAny (model X.prog X.w) X.A (spliced (backTo pos (starEach es X.env))) (AP X ae σ Q) X.xe s
def PS(X:Cx)(st:Stmt)(t:TS):Prop :=
 ∀(ae:List (Addr×Obj))(s:Shared)(σ:St)(H:Hp)(D:Ends),Inv X ae σ H s->t D σ H->wpAny (model X.prog X.w) X.A (exec st X.env) (SP X ae D) X.xe s
def PSs(X:Cx)(st:List Stmt)(t:TS):Prop :=
 ∀(ae:List (Addr×Obj))(s:Shared)(σ:St)(H:Hp)(D:Ends),Inv X ae σ H s->t D σ H->wpAny (model X.prog X.w) X.A (execs st X.env) (SP X ae D) X.xe s
theorem thn{α:Type}{t:Sem α}{Q Q':α->Shared->Prop}{M:Model}{A:Around}{E:Value->Shared->Prop}{s:Shared}(h:wpAny M A t Q E s)(hQ:∀a s,Q a s->Q' a s):wpAny M A t Q' E s:=bu h hQ λ_ _ x=>x
section
variable{X:Cx}
theorem bin{a b:Expr}{ta tb:TE}(ha:PE X a ta)(hb:PE X b tb){ae:List (Addr×Obj)}{s:Shared}{σ:St}{H:Hp}{R:V->V->Hp->Prop}(I:Inv X ae σ H s)(h:ta σ H λx H1=>tb σ H1 λy H2=>R x y H2)
  {α:Type} {Q:α->Shared->Prop} {f:Value->Value->Sem α}
  (hf:∀v u s2 x y H2,Inv X ae σ H2 s2->RelV x v->RelV y u->R x y H2->wpAny (model X.prog X.w) X.A (f v u) Q X.xe s2) :
  wpAny (model X.prog X.w) X.A (eval a X.env) (λv s₁=>wpAny (model X.prog X.w) X.A (eval b X.env) (λu s₂=>wpAny (model X.prog X.w) X.A (f v u) Q X.xe s₂) X.xe s₁) X.xe s:=by
 refine thn (ha ae s σ H _ I h) λv s1 ⟨x,H1,I1,r1,q1⟩=>?_;refine thn (hb ae s1 σ H1 _ I1 q1) λu s2 ⟨y,H2,I2,r2,q2⟩=>?_;exact hf v u s2 x y H2 I2 r1 r2 q2
def tVar(i:Nat):TE:=λσ H Q=>∃v,σ[i]?=some (some v)/\Q v H
def tC(v:V):TE:=λ_ H Q=>Q v H
theorem pe_var{i:Nat}{x:Str}{pos:Pos}(hN:X.N[i]?=some x)(hv:Vis X.env.scope x) (hd:(x == ("__debug__" : Str))=false:=by decide) (hcd:(x == ("__classdict__" : Str))=false:=by decide):PE X (.Name x pos) (tVar i):=by
 intro ae s σ H Q I h;obtain⟨v,e,h⟩:=h;obtain⟨m,hn,hl⟩:=I.loc;obtain⟨u,r,l⟩:=hl i x v hN e hv;have fin:EP X ae σ Q u s:=⟨v,H,I,r,h⟩;rcases l with⟨hk,hm⟩|⟨hk,c,hc,hcell⟩
 . exact wpAny_Name (wpAny_loadName_local I.ok.kind hk hn hm fin) hd
 .
  rcases hk with hk|hk
  . exact wpAny_Name (wpAny_loadName_cell I.ok.kind hk hc hcell fin) hd
  . exact wpAny_Name (wpAny_loadName_free I.ok.kind hk hc hcell fin hcd) hd
theorem pe_int {i j pos}:PE X (.Constant (.int i) j pos) (tC (.int i)):=λ_ _ _ H _ I h=>wpAny_Constant_int ⟨.int i,H,I.tok _,⟨_,rfl⟩,h⟩
theorem pe_bl {b j pos}:PE X (.Constant (.bool b) j pos) (tC (.bl b)):=λ_ _ _ H _ I h=>Constant_bool ⟨.bl b,H,I,rfl,h⟩
theorem pe_non {j pos}:PE X (.Constant .none j pos) (tC .non):=λ_ _ _ H _ I h=>Constant_none ⟨.non,H,I,rfl,h⟩
theorem pe_str {x j pos}:PE X (.Constant (.str x) j pos) (tC (.str x)):=λ_ _ _ H _ I h=>Calls.Constant_str ⟨.str x,H,I.tok _,⟨_,rfl⟩,h⟩
def Gl(X:Cx)(x:Str):Prop:=X.env.kindOf x=some .globalImplicit
theorem ld_glob{E:Value->Shared->Prop}{ae:List (Addr×Obj)}{s:Shared}{σ:St}{H:Hp}{x:Str}{u:Value}{pos:Pos}{Q:Value->Shared->Prop}(I:Inv X ae σ H s)(hg:Gl X x)(hm:X.mg x=some u)(h:Q u s)
  (hd:(x == ("__debug__" : Str))=false:=by decide):wpAny (model X.prog X.w) X.A (eval (.Name x pos) X.env) Q E s :=
 Calls.Name_function_global I.ok.kind hg (Calls.loadGlobal_global (by rw[I.ok.glob];exact I.mod.glob.keeps I.bk) hm h) hd
theorem ld_blt{E:Value->Shared->Prop}{ae:List (Addr×Obj)}{s:Shared}{σ:St}{H:Hp}{x:Str}{u:Value}{pos:Pos}{Q:Value->Shared->Prop}(I:Inv X ae σ H s)(hg:Gl X x)(hm:X.mg x=none)(hv:bootBuiltins x=some u)(h:Q u s)
  (hn:x≠"__name__":=by decide) (hd:(x == ("__debug__" : Str))=false:=by decide):wpAny (model X.prog X.w) X.A (eval (.Name x pos) X.env) Q E s:=by
 obtain⟨mb,h1,h2⟩:=I.mod.blt;exact Calls.Name_function_global I.ok.kind hg (Calls.loadGlobal_builtin (by rw[I.ok.glob];exact I.mod.glob.keeps I.bk) hm (by rw[I.ok.blt];exact h1.keeps I.bk) ((h2 x hn).trans hv) h) hd
theorem pe_glob{x:Str}{v:V}{u:Value}{pos:Pos}(hg:Gl X x)(hm:X.mg x=some u)(r:RelV v u) (hd:(x == ("__debug__" : Str))=false:=by decide):PE X (.Name x pos) (tC v) :=
 λ_ _ _ H _ I h=>ld_glob I hg hm ⟨v,H,I,r,h⟩ hd
theorem pe_bltn{x:Str}{v:V}{u:Value}{pos:Pos}(hg:Gl X x)(hm:X.mg x=none)(hv:bootBuiltins x=some u)(r:RelV v u) (hn:x≠"__name__":=by decide) (hd:(x == ("__debug__" : Str))=false:=by decide):PE X (.Name x pos) (tC v) :=
 λ_ _ _ H _ I h=>ld_blt I hg hm hv ⟨v,H,I,r,h⟩ hn hd
variable{a b:Expr}{ta tb:TE}{pos:Pos}
noncomputable def tB(t:TE):TT:=λσ H Q=>t σ H λx H1=>∃c,x=.bl c/\Q c H1
end
def SqL(K:PySem.W.Frag)(H:Hp)(a:Addr)(xs:List V):Prop :=
 Rd H a (.lst xs) ∨
  ∃(o:Obj)(its:Array Value)(n:Nat),K.lookup a=some o/\o.cls=.type "list"/\o.dict=none/\o.data=.seq its n/\its.size<=sizeLine/\Vals xs its.toList
def SqT(K:PySem.W.Frag)(H:Hp)(a:Addr)(xs:List V):Prop :=
 Rd H a (.tup xs) ∨
  ∃(o:Obj)(its:Array Value)(n:Nat),K.lookup a=some o/\o.cls=.type "tuple"/\o.data=.seq its n/\its.size<=sizeLine/\Vals xs its.toList
noncomputable def absV:Value->Option V
 |.none=>some .non
 |.bool b=>some (.bl b)
 |.int i _=>some (.int i)
 |.str x _=>some (.str x)
 |.bytes b _=>some (.byt b)
 |.float b _=>some (.flt b)
 |.ref a=>some (.ref a)
 |.type n=>some (.ty n)
 |_=>none
theorem RelV.abs{x:V}{u:Value}(r:RelV x u):absV u=some x:=by
 cases x with
 |non=>cases r;rfl
 |bl _=>cases r;rfl
 |int _=>obtain⟨t,rfl⟩:=r;rfl
 |str _=>obtain⟨t,rfl⟩:=r;rfl
 |byt _=>obtain⟨t,rfl⟩:=r;rfl
 |flt _=>obtain⟨t,rfl⟩:=r;rfl
 |ref _=>cases r;rfl
 |ty _=>cases r;rfl
theorem RelV.inj{x y:V}{u:Value}(r:RelV x u)(q:RelV y u):x=y:=aW (r.abs.symm.trans q.abs)
theorem Vals.inj:∀{xs ys:List V}{us:List Value},Vals xs us->Vals ys us->xs=ys
 |_,_,_,.nil,.nil=>rfl
 |_,_,_,.cons r t,.cons r' t'=>by rw[r.inj r',Vals.inj t t']
section
variable{X:Cx}{ae:List (Addr×Obj)}{σ:St}{H:Hp}{s:Shared}{a:Addr}{xs ys:List V}
theorem SqL.of{K:PySem.W.Frag}(h:H a=some (.lst xs)):SqL K H a xs:=.inl (.inl h)
theorem SqT.of{K:PySem.W.Frag}(h:H a=some (.tup xs)):SqT K H a xs:=.inl (.inl h)
theorem Inv.list(I:Inv X ae σ H s)(h:SqL X.K H a xs):∃its:List Value,Vals xs its/\PlainL s.heap a its.toArray/\xs.length<=sizeLine:=by
 rcases h with h|⟨o,its,n,hk,hc,hd,hs,hz,r⟩
 . obtain⟨z,its,n,r,e⟩:=h.ok I.hok;exact⟨its,r,⟨_,n,e,rfl,rfl,rfl⟩,z⟩
 . refine⟨its.toList,r,⟨o,n,I.kIn a o hk,hc,hd,by simpa using hs⟩,?_⟩;have e:=r.length;simp only[Array.length_toList]at e;omega
theorem Inv.tuple(I:Inv X ae σ H s)(h:SqT X.K H a xs):∃its:List Value,Vals xs its/\IsTup s.heap a its.toArray/\xs.length<=sizeLine:=by
 rcases h with h|⟨o,its,n,hk,hc,hs,hz,r⟩
 . obtain⟨z,its,r,p⟩:=h.ok I.hok;exact⟨its,r,p,z⟩
 . refine⟨its.toList,r,⟨o,I.kIn a o hk,hc,n,by simpa using hs⟩,?_⟩;have e:=r.length;simp only[Array.length_toList]at e;omega
theorem Inv.list_inj(I:Inv X ae σ H s)(h:SqL X.K H a xs)(h':SqL X.K H a ys):xs=ys:=by
 obtain⟨its,r,⟨o,n,e,_,_,d⟩,_⟩:=I.list h;obtain⟨its',r',⟨o',n',e',_,_,d'⟩,_⟩:=I.list h';rw[e]at e';cases e';rw[d]at d';injection d' with d1 _;have:its=its':=by simpa using ck Array.toList d1
 subst this;exact r.inj r'
theorem Inv.tuple_inj(I:Inv X ae σ H s)(h:SqT X.K H a xs)(h':SqT X.K H a ys):xs=ys:=by
 obtain⟨its,r,⟨o,e,_,n,d⟩,_⟩:=I.tuple h;obtain⟨its',r',⟨o',e',_,n',d'⟩,_⟩:=I.tuple h';rw[e]at e';cases e';rw[d]at d';injection d' with d1 _;have:its=its':=by simpa using ck Array.toList d1
 subst this;exact r.inj r'
end
noncomputable abbrev Cx.wish(X:Cx)(E:Value->Shared->Prop):Cx:={X with xe:=E}
noncomputable abbrev Cx.nox(X:Cx):Cx:=X.wish λ_ _=>False
theorem Cx.Ok.wish{X:Cx}(ok:X.Ok)(E:Value->Shared->Prop):(X.wish E).Ok :=
 ⟨ok.mod,ok.kind,ok.glob,ok.blt,ok.above,ok.inj,ok.has,ok.cab,ok.hd,ok.frames,ok.stk,ok.exf,ok.bs,ok.bsz,ok.noex,ok.exfs,ok.funs,ok.frf,ok.tbs⟩
theorem Cx.Ok.unwish{X:Cx}{E:Value->Shared->Prop}(ok:(X.wish E).Ok):X.Ok :=
 ⟨ok.mod,ok.kind,ok.glob,ok.blt,ok.above,ok.inj,ok.has,ok.cab,ok.hd,ok.frames,ok.stk,ok.exf,ok.bs,ok.bsz,ok.noex,ok.exfs,ok.funs,ok.frf,ok.tbs⟩
section
variable{X:Cx}{ae:List (Addr×Obj)}{σ:St}{H:Hp}{s:Shared}{E:Value->Shared->Prop}
theorem Inv.wish(I:Inv X ae σ H s)(E:Value->Shared->Prop):Inv (X.wish E) ae σ H s:=⟨I.ok.wish E,I.os,I.bare,I.base,I.loc,I.cell,I.free,I.freeC,I.pin,I.hok,I.len⟩
theorem Inv.unwish(I:Inv (X.wish E) ae σ H s):Inv X ae σ H s:=⟨I.ok.unwish,I.os,I.bare,I.base,I.loc,I.cell,I.free,I.freeC,I.pin,I.hok,I.len⟩
theorem SP.unwish{D:Ends}{f:Flow}{s':Shared}(h:SP (X.wish E) ae D f s'):SP X ae D f s':=by
 cases f with
 |next=>obtain⟨σ',H',I,q⟩:=h;exact⟨σ',H',I.unwish,q⟩
 |brk=>obtain⟨σ',H',I,q⟩:=h;exact⟨σ',H',I.unwish,q⟩
 |cont=>obtain⟨σ',H',I,q⟩:=h;exact⟨σ',H',I.unwish,q⟩
 |ret u=>obtain⟨v,σ',H',I,r,q⟩:=h;exact⟨v,σ',H',I.unwish,r,q⟩
theorem PSs.nox{st:List Stmt}{t:TS}(h:PSs X.nox st t):PSs X st t:=λae s σ H D I hw =>
 bu (h ae s σ H D (I.wish _) hw) (λ_ _ q=>q.unwish) λ_ _ z=>False.elim z
end
section
variable{X:Cx}{st:Stmt}{rest:List Stmt}{t u:TS}{e:Expr}{te:TE}{pos:Pos}
def tSeq(t u:TS):TS:=λD σ H=>t {D with nx:=u D} σ H
theorem pss_cons(h1:PS X st t)(h2:PSs X rest u):PSs X (st::rest) (tSeq t u):=by
 intro ae s σ H D I h;refine wpAny_execs_cons (thn (h1 ae s σ H {D with nx:=u D} I h) λf s1 q=>?_)
 cases f with
 | next =>
  obtain⟨σ',H',I',q⟩:=q;exact h2 ae s1 σ' H' D I' q
 |ret v=>exact q
 |brk=>exact q
 |cont=>exact q
theorem pss_one(h1:PS X st t):PSs X [st] t:=by
 intro ae s σ H D I h;refine wpAny_execs_cons (thn (h1 ae s σ H D I h) λf s1 q=>?_)
 cases f with
 |next=>exact bT q
 |ret v=>exact q
 |brk=>exact q
 |cont=>exact q
theorem Inv.quiet{ae:List (Addr×Obj)}{σ:St}{H:Hp}{s:Shared}(I:Inv X ae σ H s):interactive X.env=false:=by simp[interactive,I.ok.kind]
def tDrop(te:TE):TS:=λD σ H=>te σ H λ_ H1=>D.nx σ H1
theorem ps_expr(he:PE X e te)(hs:swapsWith e none pos.line X.env=pure false:=by rfl):PS X (.Expr e pos) (tDrop te):=by intro ae s σ H D I h;exact wpAny_Expr_any (thn (he ae s σ H _ I h) λv s1 ⟨x,H1,I1,r1,q1⟩=>⟨σ,H1,I1,q1⟩) I.quiet hs
end
noncomputable abbrev TG:=V->St->Hp->(St->Hp->Prop)->Prop
def PG(X:Cx)(target:Expr)(t:TG):Prop :=
 ∀(ae:List (Addr×Obj))(s:Shared)(σ:St)(H:Hp)(v:V)(u:Value)(Q:St->Hp->Prop),Inv X ae σ H s->RelV v u->t v σ H Q ->
  wpAny (model X.prog X.w) X.A (assign target X.env u) (λ_ s'=>∃σ' H',Inv X ae σ' H' s'/\Q σ' H') X.xe s
noncomputable abbrev TSet:=V->V->V->Hp->(Hp->Prop)->Prop
def PSet(X:Cx)(t:TSet):Prop :=
 ∀(ae:List (Addr×Obj))(s:Shared)(σ:St)(H:Hp)(o i v:V)(ov iv u:Value)(Q:Hp->Prop),Inv X ae σ H s->RelV o ov->RelV i iv->RelV v u->t o i v H Q ->
  wpAny (model X.prog X.w) X.A (setItem ov iv u) (λ_ s'=>∃H',Inv X ae σ H' s'/\Q H') X.xe s
section
variable{X:Cx}{pos:Pos}
noncomputable def gName(i:Nat):TG:=λv σ H Q=>Q (σ.set i (some v)) H
theorem pg_name{i:Nat}{x:Str}(hN:X.N.Nodup)(hi:X.N[i]?=some x)(hx:Loc X.env.scope x)(hf:X.fn x=true∨X.env.scope.names.lookup x=some .local:=by first|exact .inl rfl|exact .inr rfl|assumption):PG X (.Name x pos) (gName i):=by intro ae s σ H v u Q I r h;exact wpAny_assign_Name (store_ok I hN hi hx r (λs' I'=>⟨_,H,I',h⟩) hf)
noncomputable def gSub(to ti:TE)(t:TSet):TG:=λv σ H Q=>to σ H λo H1=>ti σ H1 λi H2=>t o i v H2 λH3=>Q σ H3
theorem pg_sub{o i:Expr}{to ti:TE}{t:TSet}(ho:PE X o to)(hi:PE X i ti)(hs:PSet X t)
  (ha:∀v,assign (.Subscript o i pos) X.env v=(do
   let ov <- holding [v] (eval o X.env)
   let iv <- holding [v,ov] (eval i X.env)
   standAt pos
   holding [v,ov,iv] (setItem ov iv v)
   release [v,ov,iv] []):=by intro _;rfl):PG X (.Subscript o i pos) (gSub to ti t):=by
 intro ae s σ H v u Q I r h;rw[ha];refine ah (bF (thn (ho ae s σ H _ I h) λov s1 ⟨x,H1,I1,r1,q1⟩=>?_));refine ah (bF (thn (hi ae s1 σ H1 _ I1 q1) λiv s2 ⟨y,H2,I2,r2,q2⟩=>?_));refine ah (cj (ah (bF (thn (hs ae s2 σ H2 x y v ov iv u _ I2 r1 r2 r q2) λ_ s3 ⟨H3,I3,q3⟩=>?_))));exact wpAny_release ⟨σ,H3,I3,q3⟩
def tAsg(te:TE)(g:TG):TS:=λD σ H=>te σ H λx H1=>g x σ H1 D.nx
theorem ps_asg{tg e:Expr}{te:TE}{g:TG}(he:PE X e te)(hg:PG X tg g)(hs:swapsWithSole [tg] e pos.line X.env=pure false:=by rfl)(hw:swappedStores [tg] e X.env=pure none:=by rfl)
  (h1:(assignEach [tg] X.env).map (·.2)=[assign tg X.env]:=by rfl):PS X (.Assign [tg] e pos) (tAsg te g):=by
 intro ae s σ H D I h;refine wpAny_Assign_stores (thn (he ae s σ H _ I h) λv s1 ⟨x,H1,I1,r1,q1⟩=>?_) hs hw;rw[h1];exact thn (hg ae s1 σ H1 x v _ I1 r1 q1) λ_ s2 q=>q
def tPar(i j:Nat)(ta:TA):TS:=λD σ H=>ta σ H λvs H1=>∃v w,vs=[v,w]/\D.nx ((σ.set i (some v)).set j (some w)) H1
theorem ps_par{i j:Nat}{x y:Str}{a b:Expr}{ta:TA}{px py pt:Pos} {kt k2 pt2} (hc:X.calm=true) (hN:X.N.Nodup) (hi:X.N[i]?=some x) (hj:X.N[j]?=some y) (hij:i≠j)
  (hx:X.env.scope.names.lookup x=some .local) (hy:X.env.scope.names.lookup y=some .local) (ha:PA X [a,b] ta)
  (hw:swappedStores [.Tuple [.Name x px,.Name y py] kt pt] (.Tuple [a,b] k2 pt2) X.env=pure (some [x,y]))
  (hs:swapsWithSole [.Tuple [.Name x px,.Name y py] kt pt] (.Tuple [a,b] k2 pt2) pos.line X.env=pure false:=by rfl) :
  PS X (.Assign [.Tuple [.Name x px,.Name y py] kt pt] (.Tuple [a,b] k2 pt2) pos) (tPar i j ta):=by
 intro ae s σ H D I h;rw[exec_Assign_arm];refine ah (cj ?_);rw[hs];refine ah (ar ?_);rw[if_neg (by decide)];refine ah (Tuple_ (thn (ha _ ae s σ H _ I h) λus s1 ⟨vs,H1,I1,r1,q1⟩=>?_));obtain⟨v,w,e1,q1⟩:=q1;subst e1
 obtain⟨u1,u2,rfl,rv,rw'⟩:∃u1 u2,us=[u1,u2]/\RelV v u1/\RelV w u2:=by
  cases r1 with
  | cons p q =>
   cases q with
   | cons p' q' =>
    cases q';exact⟨_,_,rfl,p,p'⟩
 refine bJ ?_ (by show 2<=sizeLine;decide);have I2:Inv X ae σ H1 {s1 with heap:=s1.heap.push {cls:=.type "tuple",data:=.seq [u1,u2].toArray} }:=I1.kept (t':=s1.toks) λb o e=>aq _ e;rw[hw];refine ah (ar ?_)
 show wpAny (model X.prog X.w) X.A (do rule "assign.swapped-stores"; let items <- unpackItems (.ref s1.heap.objs.size) 2 none; assignInOrder [λv=>bindName X.env y v,λv=>bindName X.env x v] items.reverse; pure Flow.next) _ _ _
 refine ah (wpAny_rule (ah (unpackItems_tuple (items:=#[u1,u2]) (I.ok.hd hc) (IsTup.new s1.heap _) λh' hx'=>?_)));have I3:=I2.kept (h':=h') (t':=s1.toks) λb o e=>hx' b o (aR (au e)) e
 show wpAny _ _ (assignInOrder [λv=>bindName X.env y v,λv=>bindName X.env x v] [u2,u1] >>= λ_=>pure Flow.next) _ _ _
 refine ah (assignInOrder_cons (wpAny_bindName (store_ok I3 hN hj (.inl hy) rw' (λs2 I4=>?_) (.inr hy))));refine assignInOrder_cons (wpAny_bindName (store_ok I4 hN hi (.inl hx) rv (λs3 I5=>assignInOrder_nil (ar ?_)) (.inr hx)));rw[List.set_comm _ _ (bN hij)]at I5;exact⟨_,H1,I5,q1⟩
end
section
variable{X:Cx}{pos:Pos}
def tWhile(c:TT)(tb:TS):TS:=λD σ H=>∃W:Nat->St->Hp->Prop,(∃m,W m σ H)/\∀m σ H,W m σ H ->
 c σ H λb H1=>if b=true then ∃N:St->Hp->Prop,(∀σ' H',N σ' H'->∃m',m' < m/\W m' σ' H')/\tb {D with nx:=N,ct:=N,bk:=D.nx} σ H1 else D.nx σ H1
theorem ps_while{c:Expr}{body:List Stmt}{tc:TT}{tb:TS}(hp:PassesOwn (model X.prog X.w) X.A X.env X.xe)(hc:PT X c tc)(hb:PSs X body tb):PS X (.While c body [] pos) (tWhile tc tb):=by
 intro ae s σ H D I h;obtain⟨W,⟨m0,w0⟩,turn⟩:=h;refine wpAny_While (codeAny_whileLoop (λn s'=>∃σ' H',Inv X ae σ' H' s'/\W n σ' H') ?_ m0 ⟨σ,H,I,w0⟩);rintro n s1 ⟨σ1,H1,I1,w1⟩;refine bS hp (thn (hc ae s1 σ1 H1 _ I1 (turn n σ1 H1 w1)) λb s2 ⟨H2,I2,q2⟩=>?_)
 cases b with
 | true =>
  obtain⟨N,hN,q2⟩:=q2;rw[if_pos rfl];refine bS hp (thn (hb ae s2 σ1 H2 _ I2 q2) λf s3 q3=>?_)
  cases f with
  | next =>
   obtain⟨σ3,H3,I3,n3⟩:=q3;obtain⟨m',hm,w3⟩:=hN σ3 H3 n3;exact⟨m',hm,σ3,H3,I3,w3⟩
  | cont =>
   obtain⟨σ3,H3,I3,n3⟩:=q3;obtain⟨m',hm,w3⟩:=hN σ3 H3 n3;exact⟨m',hm,σ3,H3,I3,w3⟩
  |brk=>exact q3
  |ret v=>exact q3
 | false =>
  rw[if_neg aF];exact bT ⟨σ1,H2,I2,q2⟩
end
structure It where
 go:Nat->Hp->Prop
 yld:Nat->Hp->V->Hp->Prop
 stop:Nat->Hp->Prop
def FpOk(X:Cx)(ae:List (Addr×Obj))(H:Hp)(b:Addr):Prop :=
 H b=none/\b≠X.env.locals/\b∉X.fs/\(b∈X.ex∨X.s₀.heap.objs.size<=b)/\(∀x c,X.env.cells.lookup x=some c->c≠b)/\∀p∈X.pn++ae,p.1≠b
theorem Inv.fpOk{X:Cx}{ae:List (Addr×Obj)}{σ:St}{H H':Hp}{s:Shared}{b:Addr}(I:Inv X ae σ H s)(hb:s.heap.objs.size<=b)(hn:H' b=none):FpOk X ae H' b:=by
 refine⟨hn,Nat.ne_of_gt (aj I.lt hb),I.nofs hb,.inr (aG I.sz hb),λx c e z=>?_,λp hp z=>?_⟩
 . obtain⟨v,q⟩:=I.cell x c e;exact absurd (aj q.lt (by rw[z];exact hb)) (bY _)
 . exact absurd (aj (au (I.pin p hp).1) (by rw[z];exact hb)) (bY _)
structure Turn (P:Program) (w:World) (K:PySem.W.Frag) (tg:Expr) (J:It) (fp:List Addr) (it:Addr) (tn:Nat->Heap->Prop):Prop where
 mem:it∈fp
 obj:∀i h,tn i h->∀b∈fp,∃o,h.get? b=some o/\∀v,o.data≠.cell v
 keep:∀i h h',tn i h->(∀b∈fp,∀o,h.get? b=some o->h'.get? b=some o)->tn i h'
 item:∀(X:Cx),X.prog=P->X.w=w->X.K=K->X.calm=true->∀(i:Nat)(ae:List (Addr×Obj))(s:Shared)(σ:St)(H:Hp)(E:Value->Shared->Prop),Inv X ae σ H s->(∀b∈fp,FpOk X ae H b)->tn i s.heap->J.go i H ->
  wpAny (model P w) X.A (pyNext (.ref it)) (λr s1=>∃u,r=some u /\
   wpAny (model P w) X.A (letOwnedTupleGo tg (.ref it) u) (λ_ s2=>∃x H',Inv X ae σ H' s2/\RelV x u/\J.yld i H x H'/\tn (i+1) s2.heap/\∀b∈fp,H' b=none) E s1) E s
 done:∀(X:Cx),X.prog=P->X.w=w->X.K=K->X.calm=true->∀(i:Nat)(ae:List (Addr×Obj))(s:Shared)(σ:St)(H:Hp)(E:Value->Shared->Prop),Inv X ae σ H s->(∀b∈fp,FpOk X ae H b)->tn i s.heap->J.stop i H ->
  wpAny (model P w) X.A (pyNext (.ref it)) (λr s1=>r=none/\Inv X ae σ H s1) E s
 self:∀(A:Around)(i:Nat)(s:Shared)(Q:Value->Shared->Prop)(E:Value->Shared->Prop),tn i s.heap->Q (.ref it) s->wpAny (model P w) A (pyIter (.ref it)) Q E s
noncomputable abbrev TI:=St->Hp->(It->Hp->Prop)->Prop
def PIE(X:Cx)(ae:List (Addr×Obj))(σ:St)(tg:Expr)(R:It->Hp->Prop)(itv:Value)(s2:Shared):Prop :=
 ∃(it:Addr)(fp:List Addr)(tn:Nat->Heap->Prop)(J:It)(H':Hp),itv=.ref it/\Inv X ae σ H' s2/\Turn X.prog X.w X.K tg J fp it tn/\tn 0 s2.heap/\(∀b∈fp,FpOk X ae H' b)/\R J H'
def PI(X:Cx)(tg iter:Expr)(wi:TI):Prop :=
 ∀(ae:List (Addr×Obj))(s:Shared)(σ:St)(H:Hp)(R:It->Hp->Prop),Inv X ae σ H s->wi σ H R ->
  wpAny (model X.prog X.w) X.A (eval iter X.env) (λv s1=>wpAny (model X.prog X.w) X.A (pyIter v) (PIE X ae σ tg R) X.xe s1) X.xe s
theorem go_of {M : Model} {A : Around} {E : Value → Shared → Prop} {s : Shared} {tg : Expr} {it : Addr} {u : Value} {o : Obj} {n : String} {vs : Array Value} {Q : Unit → Shared → Prop} (ho : s.heap.get? it = some o) (hc : o.cls = .type n) (hd : o.data = .fields vs)
    (hn : ["enumerate", "zip", "dict_itemiterator", "dict_reverseitemiterator", "odict_iterator", "itertools.zip_longest", "itertools.pairwise"].contains n = false) (hQ : Q () s) : wpAny M A (letOwnedTupleGo tg (.ref it) u) Q E s := by
  unfold letOwnedTupleGo
  cases tg<;>first
    |exact ar hQ
    | (cases u<;>first
        |exact ar hQ
        | (refine ah (wpAny_load ho ?_)
           rw[hc, hd]
           show wpAny M A (if(["enumerate", "zip", "dict_itemiterator", "dict_reverseitemiterator", "odict_iterator", "itertools.zip_longest", "itertools.pairwise"].contains n && vs[0]? == some (rawInt _)) = true then _ else _) Q E s
           rw[if_neg (by intro h;rw[hn, Bool.false_and]at h;cases h)]
           exact ar hQ))
noncomputable def Itl(K:PySem.W.Frag)(a:Addr):It :=
 ⟨λi H=>∃xs x,SqL K H a xs/\xs[i]?=some x,λi H x H'=>H'=H/\∀xs,SqL K H a xs->xs[i]?=some x,λi H=>∃xs,SqL K H a xs/\xs.length<=i⟩
noncomputable def Itt(K:PySem.W.Frag)(a:Addr):It :=
 ⟨λi H=>∃xs x,SqT K H a xs/\xs[i]?=some x,λi H x H'=>H'=H/\∀xs,SqT K H a xs->xs[i]?=some x,λi H=>∃xs,SqT K H a xs/\xs.length<=i⟩
noncomputable def Itr(lo:Int)(n:Nat):It:=⟨λi _=>i<n,λi H x H'=>H'=H/\x=.int (lo+i),λi _=>n<=i⟩
theorem turn_list{P:Program}{w:World}{K:PySem.W.Frag}{tg:Expr}(a it:Addr):Turn P w K tg (Itl K a) [it] it (λi h=>h.IsListIter it a i) where
 mem:=by simp
 obj:=λi h st b hb=>by
  have e:b=it:=by simpa using hb
  subst e;obtain⟨o,e,c,d⟩:=st;exact⟨o,e,λv z=>by rw[d]at z;cases z⟩
 keep:=λi h h' st k=>st.at λo e=>k it zY o e
 item:=by intro X hP hw hK hc i ae s σ H E I hf st hg;subst hP hw hK;obtain⟨xs,x,hq,hx⟩:=hg;obtain⟨its,rv,p,hz⟩:=I.list hq;obtain⟨u,hu,ru⟩:=rv.get hx;obtain⟨f0,f1,f2,f3,f4,f5⟩:=hf it zY;refine wpAny_pyNext_list_item st p.isList (x:=u) (by simpa using hu) λh' st' sb=>?_;have I1:Inv X ae σ H {s with heap:=h' }:=I.turned (t':=s.toks) (λb o hb e=>(sb.2 b hb).trans e) f0 f1 f3 f4 f5;obtain⟨o,e,c,d⟩:=id st';exact⟨u,rfl,go_of (s:={s with heap:=h' }) e c d ze ⟨x,H,I1,ru,⟨rfl,λys hy=>by rw[I.list_inj hy hq];exact hx⟩,st',λb hb=>(hf b hb).1⟩⟩
 done:=by intro X hP hw hK hc i ae s σ H E I hf st hg;subst hP hw hK;obtain⟨xs,hq,hx⟩:=hg;obtain⟨its,rv,p,hz⟩:=I.list hq;obtain⟨f0,f1,f2,f3,f4,f5⟩:=hf it zY;have hl:=rv.length;exact wpAny_pyNext_list_end (I.ok.hd hc) st p.isList (by simp;omega) λh' eb=>⟨rfl,I.turned (t':=s.toks) (λb o hb e=>eb b o hb e) f0 f1 f3 f4 f5⟩
 self:=λ_ _ _ _ _ st h=>wpAny_pyIter_listiter st h
theorem turn_tuple{P:Program}{w:World}{K:PySem.W.Frag}{tg:Expr}(a it:Addr):Turn P w K tg (Itt K a) [it] it (λi h=>h.IsTupleIter it a i) where
 mem:=by simp
 obj:=λi h st b hb=>by
  have e:b=it:=by simpa using hb
  subst e;obtain⟨o,e,c,d⟩:=st;exact⟨o,e,λv z=>by rw[d]at z;cases z⟩
 keep:=λi h h' st k=>st.at λo e=>k it zY o e
 item:=by intro X hP hw hK hc i ae s σ H E I hf st hg;subst hP hw hK;obtain⟨xs,x,hq,hx⟩:=hg;obtain⟨its,rv,p,hz⟩:=I.tuple hq;obtain⟨u,hu,ru⟩:=rv.get hx;obtain⟨f0,f1,f2,f3,f4,f5⟩:=hf it zY;refine wpAny_pyNext_tuple_item st (show s.heap.IsTuple a its.toArray from p) (x:=u) (by simpa using hu) λh' st' sb=>?_;have I1:Inv X ae σ H {s with heap:=h' }:=I.turned (t':=s.toks) (λb o hb e=>(sb.2 b hb).trans e) f0 f1 f3 f4 f5;obtain⟨o,e,c,d⟩:=id st';exact⟨u,rfl,go_of (s:={s with heap:=h' }) e c d ze ⟨x,H,I1,ru,⟨rfl,λys hy=>by rw[I.tuple_inj hy hq];exact hx⟩,st',λb hb=>(hf b hb).1⟩⟩
 done:=by intro X hP hw hK hc i ae s σ H E I hf st hg;subst hP hw hK;obtain⟨xs,hq,hx⟩:=hg;obtain⟨its,rv,p,hz⟩:=I.tuple hq;obtain⟨f0,f1,f2,f3,f4,f5⟩:=hf it zY;have hl:=rv.length;exact wpAny_pyNext_tuple_end (I.ok.hd hc) st (show s.heap.IsTuple a its.toArray from p) (by simp;omega) λh' eb=>⟨rfl,I.turned (t':=s.toks) (λb o hb e=>eb b o hb e) f0 f1 f3 f4 f5⟩
 self:=λ_ _ _ _ _ st h=>wpAny_pyIter_tupleiter st h
theorem turn_range{P:Program}{w:World}{K:PySem.W.Frag}{tg:Expr}(it:Addr)(lo:Int)(n:Nat):Turn P w K tg (Itr lo n) [it] it (λi h=>IsRangeIter h it (lo+(i:Nat)*1) ((n:Int)-(i:Nat)) 1) where
 mem:=by simp
 obj:=λi h st b hb=>by
  have e:b=it:=by simpa using hb
  subst e
  exact⟨_,st,λv z=>by
   have z':Data.fields _=Data.cell v:=z
   cases z'⟩
 keep:=λi h h' st k=>k it zY _ st
 item:=by intro X hP hw hK hc i ae s σ H E I hf st hg;subst hP hw hK;obtain⟨f0,f1,f2,f3,f4,f5⟩:=hf it zY;have W:=Walks.range (prog:=X.prog) (w:=X.w) (I.ok.hd hc) it lo 1 n;refine W.item i s _ _ hg st λv h' tk hv st' kk=>?_;obtain⟨t,rfl⟩:=hv;have I1:Inv X ae σ H {s with heap:=h',toks:=tk}:=I.turned (λb o hb e=>kk b o (by simpa using hb) e) f0 f1 f3 f4 f5;refine⟨_,rfl,go_of (s:={s with heap:=h',toks:=tk}) (n:="range_iterator") st' rfl rfl ze ⟨.int (lo+i),H,I1,⟨t,?_⟩,⟨rfl,rfl⟩,st',λb hb=>(hf b hb).1⟩⟩;rw[Int.mul_one]
 done:=by intro X hP hw hK hc i ae s σ H E I hf st hg;subst hP hw hK;obtain⟨f0,f1,f2,f3,f4,f5⟩:=hf it zY;exact wpAny_pyNext_range_end (I.ok.hd hc) st (by have:n<=i:=hg;omega) λh' eb=>⟨rfl,I.turned (t':=s.toks) (λb o hb e=>eb b o hb e) f0 f1 f3 f4 f5⟩
 self:=λ_ _ _ _ _ st h=>wpAny_pyIter_rangeiter st h
section
variable{X:Cx}{tg:Expr}
theorem range_it{ae:List (Addr×Obj)}{σ:St}{H:Hp}{s:Shared}{R:It->Hp->Prop}{E:Value->Shared->Prop}{lo hi:Int}{t u v:Tok}{tk:Nat}(I:Inv X ae σ H s)(h1 : -(2^62)<=lo)(h2:lo<2^62)(h3 : -(2^62)<=hi)(h4:hi<2^62)
  (q:R (Itr lo (hi-lo).toNat) H):wpAny (model X.prog X.w) X.A (pyIter (.ref s.heap.objs.size)) (PIE X ae σ tg R) E {s with heap:=s.heap.push {cls:=.type "range",data:=.fields #[.int lo t,.int hi u,.int 1 v] },toks:=tk}:=by
 refine wpAny_pyIter_range (IsRange.new ..) (small_one h1 h2 h3 h4) ?_;have I1:Inv X ae σ H {s with heap:=s.heap.push {cls:=.type "range",data:=.fields #[.int lo t,.int hi u,.int 1 v] },toks:=tk}:=I.kept λb o e=>aq _ e
 refine⟨(s.heap.push {cls:=.type "range",data:=.fields #[.int lo t,.int hi u,.int 1 v] }).objs.size,[(s.heap.push {cls:=.type "range",data:=.fields #[.int lo t,.int hi u,.int 1 v] }).objs.size],_,_,H,rfl,
  I1.kept (t':=tk) λb o e=>aq _ e,turn_range _ lo (hi-lo).toNat,?_,λb hb=>?_,q⟩
 .
  have e1:lo+((0:Nat):Int)*1=lo:=by simp
  have e2:(((hi-lo).toNat:Nat):Int)-((0:Nat):Int)=Builtin.Range.rangeSize lo hi 1:=by rw[rangeSize_one];split<;>omega
  show IsRangeIter _ _ (lo+((0:Nat):Int)*1) ((((hi-lo).toNat:Nat):Int)-((0:Nat):Int)) 1;rw[e1,e2];exact aU _ rfl
 .
  have e:b=(s.heap.push {cls:=.type "range",data:=.fields #[.int lo t,.int hi u,.int 1 v] }).objs.size:=by simpa using hb
  subst e;exact I1.fpOk (ay _) (I1.hok.fresh (ay _))
noncomputable def iRng1(ta:TA):TI:=λσ H R=>ta σ H λvs H1=>∃j:Int,vs=[.int j]/\-(2^62)<=j/\j<2^62/\R (Itr 0 j.toNat) H1
theorem pi_range1{a:Expr}{ta:TA}{p pos:Pos} (hg:Gl X "range") (hm:X.mg "range"=none) (ha:PA X [a] ta) (hs:starEach [a] X.env=[(false,eval a X.env)]:=by rfl):PI X tg (.Call (.Name "range" p) [a] [] pos) (iRng1 ta):=by
 intro ae s σ H R I h;refine Call_ (ld_blt I hg hm boot_range (PyProof.Rows.callWith_type1 (thn (ha pos ae s σ H _ I h) λus s1 ⟨vs,H1,I1,r1,q1⟩=>?_) hs rfl));obtain⟨j,e,q1,q2,q⟩:=q1;subst e
 cases r1 with
 | cons r rr =>
  cases rr;obtain⟨t,rfl⟩:=r;exact call_range_1 (range_it I1 zZ zZ q1 q2 (by simpa using q))
noncomputable def pinsAt(fp:List Addr)(h:Heap):List (Addr×Obj):=fp.filterMap λb=>(h.get? b).map λo=>(b,o)
theorem mem_pinsAt{fp:List Addr}{h:Heap}{b:Addr}{o:Obj}(hb:b∈fp)(e:h.get? b=some o):(b,o)∈pinsAt fp h:=List.mem_filterMap.mpr ⟨b,hb,by rw[e];rfl⟩
theorem of_pinsAt{fp:List Addr}{h:Heap}{p:Addr×Obj}(hp:p∈pinsAt fp h):p.1∈fp/\h.get? p.1=some p.2:=by
 obtain⟨b,hb,e⟩:=List.mem_filterMap.mp hp
 cases q:h.get? b with
 |none=>rw[q]at e;cases e
 | some o =>
  rw[q]at e;have e':(b,o)=p:=aW e;subst e';exact⟨hb,q⟩
theorem Inv.pinned{ae:List (Addr×Obj)}{σ:St}{H:Hp}{s:Shared}{fp:List Addr}(I:Inv X ae σ H s)(hf:∀b∈fp,FpOk X ae H b)(ho:∀b∈fp,∃o,s.heap.get? b=some o/\∀v,o.data≠.cell v):Inv X (ae++pinsAt fp s.heap) σ H s :=
 I.pins_of λp hp=>(aH.mp hp).elim (λz=>I.pin p (az _ z)) λz=>by obtain⟨hb,e⟩:=of_pinsAt z;obtain⟨f0,f1,f2,_⟩:=hf p.1 hb;obtain⟨o,e',d⟩:=ho p.1 hb;rw[e]at e';cases e';exact⟨e,f0,f1,f2,d⟩
theorem Inv.unpinned{ae pl:List (Addr×Obj)}{σ:St}{H:Hp}{s:Shared}(I:Inv X (ae++pl) σ H s):Inv X ae σ H s:=I.pins_of λp hp=>I.pin p (az _ (av _ hp))
end
abbrev R2:=V->V->Hp->VK->Prop
def OpR(X:Cx)(f:Value->Value->Sem Value)(r:R2):Prop :=
 ∀(ae:List (Addr×Obj))(s:Shared)(σ:St)(H:Hp)(x y:V)(v u:Value)(Q:VK),Inv X ae σ H s->RelV x v->RelV y u->r x y H Q ->
  wpAny (model X.prog X.w) X.A (f v u) (EP X ae σ Q) X.xe s
def UnR(X:Cx)(f:Value->Sem Value)(r:V->Hp->VK->Prop):Prop :=
 ∀(ae:List (Addr×Obj))(s:Shared)(σ:St)(H:Hp)(x:V)(v:Value)(Q:VK),Inv X ae σ H s->RelV x v->r x H Q ->
  wpAny (model X.prog X.w) X.A (f v) (EP X ae σ Q) X.xe s
def CallR(X:Cx)(f:Value)(r:List V->Hp->VK->Prop):Prop :=
 ∀(ae:List (Addr×Obj))(s:Shared)(σ:St)(H:Hp)(xs:List V)(us:List Value)(Q:VK),Inv X ae σ H s->Vals xs us->r xs H Q ->
  wpAny (model X.prog X.w) X.A (call f us) (EP X ae σ Q) X.xe s
def TruR(X:Cx)(r:V->Hp->(Bool->Hp->Prop)->Prop):Prop :=
 ∀(ae:List (Addr×Obj))(s:Shared)(σ:St)(H:Hp)(x:V)(v:Value)(Q:Bool->Hp->Prop),Inv X ae σ H s->RelV x v->r x H Q ->
  wpAny (model X.prog X.w) X.A (truthy v) (TP X ae σ Q) X.xe s
def tOp(r:R2)(ta tb:TE):TE:=λσ H Q=>ta σ H λx H1=>tb σ H1 λy H2=>r x y H2 Q
def rI(C:Int->Int->Prop)(g:Int->Int->V):R2:=λx y H Q=>∃i j,x=.int i/\y=.int j/\C i j/\Q (g i j) H
def rI0(g:Int->Int->V):R2:=λx y H Q=>∃i j,x=.int i/\y=.int j/\Q (g i j) H
def rU(g:Int->V):V->Hp->VK->Prop:=λx H Q=>∃i,x=.int i/\Q (g i) H
section
variable{X:Cx}{a b:Expr}{ta tb:TE}
theorem binT(ha:PE X a ta)(hb:PE X b tb){ae:List (Addr×Obj)}{s:Shared}{σ:St}{H:Hp}{R:V->V->Hp->Prop}(I:Inv X ae σ H s)
  (h:ta σ H λx H1=>tb σ H1 λy H2=>R x y H2) {Q:Value->Shared->Prop} {f:Value->Value->Sem Value}
  (hf:∀v u s2 x y H2,Inv X ae σ H2 s2->RelV x v->RelV y u->R x y H2->wpAny (model X.prog X.w) X.A (f v u) Q X.xe s2) :
  wpAny (model X.prog X.w) X.A (eval a X.env) (λv s₁=>wpAny (model X.prog X.w) X.A (eval b X.env) (λu s₂=>wpAny (model X.prog X.w) X.A (f v u) Q X.xe s₂) X.xe s₁) X.xe s:=by
 refine thn (ha ae s σ H _ I h) λv s1 ⟨x,H1,I1,r1,q1⟩=>?_;refine thn (hb ae s1 σ H1 _ I1 q1) λu s2 ⟨y,H2,I2,r2,q2⟩=>?_;exact hf v u s2 x y H2 I2 r1 r2 q2
theorem opI{f:Value->Value->Sem Value}{C:Int->Int->Prop}{g:Int->Int->Int}
  (rule:∀(i j:Int)(t u:Tok)(s:Shared)(Q:Value->Shared->Prop)(E:Value->Shared->Prop),C i j->Q (.int (g i j) s.toks) {s with toks:=s.toks+1}->wpAny (model X.prog X.w) X.A (f (.int i t) (.int j u)) Q E s) :
  OpR X f (rI C λi j=>.int (g i j)):=by
 intro ae s σ H x y v u Q I rx ry h;obtain⟨i,j,rfl,rfl,hc,q⟩:=h;obtain⟨t,rfl⟩:=rx;obtain⟨t',rfl⟩:=ry;exact rule i j t t' s _ _ hc ⟨.int (g i j),H,I.tok _,⟨_,rfl⟩,q⟩
theorem opI0{f:Value->Value->Sem Value}{g:Int->Int->Int}
  (rule:∀(i j:Int)(t u:Tok)(s:Shared)(Q:Value->Shared->Prop)(E:Value->Shared->Prop),Q (.int (g i j) s.toks) {s with toks:=s.toks+1}->wpAny (model X.prog X.w) X.A (f (.int i t) (.int j u)) Q E s) :
  OpR X f (rI0 λi j=>.int (g i j)):=by
 intro ae s σ H x y v u Q I rx ry h;obtain⟨i,j,rfl,rfl,q⟩:=h;obtain⟨t,rfl⟩:=rx;obtain⟨t',rfl⟩:=ry;exact rule i j t t' s _ _ ⟨.int (g i j),H,I.tok _,⟨_,rfl⟩,q⟩
theorem opB0{f:Value->Value->Sem Value}{g:Int->Int->Bool}
  (rule:∀(i j:Int)(t u:Tok)(s:Shared)(Q:Value->Shared->Prop)(E:Value->Shared->Prop),Q (.bool (g i j)) s->wpAny (model X.prog X.w) X.A (f (.int i t) (.int j u)) Q E s) :
  OpR X f (rI0 λi j=>.bl (g i j)):=by
 intro ae s σ H x y v u Q I rx ry h;obtain⟨i,j,rfl,rfl,q⟩:=h;obtain⟨t,rfl⟩:=rx;obtain⟨t',rfl⟩:=ry;exact rule i j t t' s _ _ ⟨.bl (g i j),H,I,rfl,q⟩
def CPow(i j:Int):Prop:=0<=j/\j<=1000000/\i.natAbs<2^64
def CMul(i j:Int):Prop:=(-(2^64)<i/\i<2^64)∨(-(2^64)<j/\j<2^64)
theorem CMul.ok{i j:Int}(h:CMul i j):IntMulOk i j:=by
 rcases h with⟨h1,h2⟩|⟨h1,h2⟩
 . exact .of_left (intBits_le_64 h1 h2)
 . exact .of_right (intBits_le_64 h1 h2)
theorem op_add:OpR X (binaryOp .Add) (rI0 λi j=>.int (i+j)):=opI0 λ_ _ _ _ _ _ _ q=>add_int q
theorem op_sub:OpR X (binaryOp .Sub) (rI0 λi j=>.int (i-j)):=opI0 λ_ _ _ _ _ _ _ q=>sub_int q
theorem op_modN:OpR X (binaryOp .Mod) (rI (λ_ j=>j≠0) λi j=>.int (i.fmod j)):=opI λ_ _ _ _ _ _ _ hc q=>mod_int' hc q
theorem op_pow:OpR X (binaryOp .Pow) (rI CPow λi j=>.int (i^j.toNat)):=opI λ_ _ _ _ _ _ _ hc q=>pow_int_small hc.1 hc.2.1 hc.2.2 q
theorem unI{f:Value->Sem Value}{g:Int->Int}
  (rule:∀(i:Int)(t:Tok)(s:Shared)(Q:Value->Shared->Prop)(E:Value->Shared->Prop),Q (.int (g i) s.toks) {s with toks:=s.toks+1}->wpAny (model X.prog X.w) X.A (f (.int i t)) Q E s) :
  UnR X f (rU λi=>.int (g i)):=by
 intro ae s σ H x v Q I rx h;obtain⟨i,rfl,q⟩:=h;obtain⟨t,rfl⟩:=rx;exact rule i t s _ _ ⟨.int (g i),H,I.tok _,⟨_,rfl⟩,q⟩
theorem un_neg:UnR X (unaryOp .USub) (rU λi=>.int (-i)):=unI λ_ _ _ _ _ q=>neg_int q
end
noncomputable def scal:V->V->Bool
 |.non,.non=>true | .non,.int _=>true | .int _,.non=>true | .non,.bl _=>true | .bl _,.non=>true | .non,.str _=>true | .str _,.non=>true
 |.int _,.int _=>true | .bl _,.bl _=>true | .str _,.str _=>true | .byt _,.byt _=>true
 |.int _,.str _=>true | .str _,.int _=>true | .bl _,.str _=>true | .str _,.bl _=>true
 |_,_=>false
def rEq:R2:=λx y H Q=>scal x y=true/\Q (.bl (decide (x=y))) H
theorem dec_int{i j:Int}:decide (V.int i=V.int j)=(i == j):=by rw[bU];simp
theorem dec_bl{i j:Bool}:decide (V.bl i=V.bl j)=(i == j):=by rw[bU];simp
theorem dec_str{i j:Str}:decide (V.str i=V.str j)=(i == j):=by rw[bU];simp
theorem dec_byt{i j:Array UInt8}:decide (V.byt i=V.byt j)=(i.toList == j.toList):=by rw[bU];cases i;cases j;simp
section
variable{X:Cx}{a b c:Expr}{ta tb tc:TE}{pos:Pos}
theorem fin_bl{ae:List (Addr×Obj)}{σ:St}{H:Hp}{s:Shared}{Q:VK}{k k':Bool}(I:Inv X ae σ H s)(q:Q (.bl k) H)(e:k=k'):EP X ae σ Q (.bool k') s:=by subst e;exact⟨.bl k,H,I,rfl,q⟩
theorem op_eq:OpR X (compareOp .Eq) rEq:=by
 intro ae s σ H x y v u Q I rx ry h;obtain⟨hs,q⟩:=h
 cases x with
 | non =>
  cases rx
  cases y with
  |non=>cases ry;exact PySem.EqNone.eq_none_none (fin_bl I q zY)
  |bl j=>cases ry;exact PySem.EqNone.eq_none_bool (fin_bl I q zY)
  |int j=>obtain⟨t',rfl⟩:=ry;exact PySem.EqNone.eq_none_int (fin_bl I q zY)
  |str j=>obtain⟨t',rfl⟩:=ry;exact PySem.EqNone.eq_none_str (fin_bl I q zY)
  |_=>exact absurd (show false=true from hs) aF
 | bl i =>
  cases rx
  cases y with
  |non=>cases ry;exact PySem.EqNone.eq_bool_none (fin_bl I q zY)
  |bl j=>cases ry;exact eq_bool (fin_bl I q dec_bl)
  |str j=>obtain⟨t',rfl⟩:=ry;exact PySem.EqMixed.eq_bool_str (fin_bl I q zY)
  |_=>exact absurd (show false=true from hs) aF
 | int i =>
  obtain⟨t,rfl⟩:=rx
  cases y with
  |non=>cases ry;exact PySem.EqNone.eq_int_none (fin_bl I q zY)
  |int j=>obtain⟨t',rfl⟩:=ry;exact eq_int (fin_bl I q dec_int)
  |str j=>obtain⟨t',rfl⟩:=ry;exact PySem.EqMixed.eq_int_str (fin_bl I q zY)
  |_=>exact absurd (show false=true from hs) aF
 | str i =>
  obtain⟨t,rfl⟩:=rx
  cases y with
  |non=>cases ry;exact PySem.EqNone.eq_str_none (fin_bl I q zY)
  |bl j=>cases ry;exact PySem.EqMixed.eq_str_bool (fin_bl I q zY)
  |int j=>obtain⟨t',rfl⟩:=ry;exact PySem.EqMixed.eq_str_int (fin_bl I q zY)
  |str j=>obtain⟨t',rfl⟩:=ry;exact eq_str (fin_bl I q dec_str)
  |_=>exact absurd (show false=true from hs) aF
 | byt i =>
  obtain⟨t,rfl⟩:=rx
  cases y with
  |byt j=>obtain⟨t',rfl⟩:=ry;exact PySem.W.eq_bytes (fin_bl I q dec_byt)
  |_=>exact absurd (show false=true from hs) aF
 |_=>cases y<;>exact absurd (show false=true from hs) aF
theorem op_lt:OpR X (compareOp .Lt) (rI0 λi j=>.bl (decide (i<j))):=opB0 λ_ _ _ _ _ _ _ q=>lt_int q
theorem op_le:OpR X (compareOp .LtE) (rI0 λi j=>.bl (decide (i<=j))):=opB0 λ_ _ _ _ _ _ _ q=>le_int q
theorem op_gt:OpR X (compareOp .Gt) (rI0 λi j=>.bl (decide (j<i))):=opB0 λ_ _ _ _ _ _ _ q=>gt_int q
theorem op_ge:OpR X (compareOp .GtE) (rI0 λi j=>.bl (decide (j<=i))):=opB0 λ_ _ _ _ _ _ _ q=>ge_int q
theorem nomark(b:Expr){op:CmpOp}(h:op≠.In:=by decide)(h2:op≠.NotIn:=by decide):behindInMarks op b=false:=by
 have e1:(op == CmpOp.In)=false:=by cases op<;>first|rfl|exact absurd rfl h
 have e2:(op == CmpOp.NotIn)=false:=by cases op<;>first|rfl|exact absurd rfl h2
 cases b<;>simp[behindInMarks,e1,e2]
noncomputable def tTest(t:TE):TT:=λσ H Q=>t σ H λx H'=>∃k,x=.bl k/\Q k H'
theorem pt_cmpR{op:CmpOp}{r:R2}(ho:OpR X (compareOp op) r)(ha:PE X a ta)(hb:PE X b tb)(hm:behindInMarks op b=false):PT X (.Compare a [op] [b] pos) (tTest (tOp r ta tb)):=by
 intro ae s σ H Q I h
 refine wpAny_isTrue_Compare1 (thn (ha ae s σ H _ I h) λv s1 ⟨x,H1,I1,r1,q1⟩=>thn (hb ae s1 σ H1 _ I1 q1) λu s2 ⟨y,H2,I2,r2,q2⟩ =>
  thn (ho ae s2 σ H2 x y v u _ I2 r1 r2 q2) λc s3 ⟨z,H3,I3,r3,k,e,q3⟩=>?_) hm
 subst e;cases r3;exact a0 ⟨H3,I3,q3⟩
def tChain(r r':R2)(ta tb tc:TE):TE:=λσ H Q=>ta σ H λx H1=>tb σ H1 λy H2=>r x y H2 λz H3=>∃k,z=.bl k /\
 (if k=true then tc σ H3 λw' H4=>r' y w' H4 Q else Q (.bl false) H3)
theorem pt_chain{op op':CmpOp}{r r':R2}(ho:OpR X (compareOp op) r)(ho':OpR X (compareOp op') r')(ha:PE X a ta)(hb:PE X b tb)(hc:PE X c tc)
  (hm:lastMarks [op,op'] [b,c]=false:=by with_unfolding_all rfl):PT X (.Compare a [op,op'] [b,c] pos) (tTest (tChain r r' ta tb tc)):=by
 intro ae s σ H Q I h
 refine isTrue_chain (thn (ha ae s σ H _ I h) λv s1 ⟨x,H1,I1,r1,q1⟩=>test_link (thn (hb ae s1 σ H1 _ I1 q1) λu s2 ⟨y,H2,I2,r2,q2⟩ =>
  thn (ho ae s2 σ H2 x y v u _ I2 r1 r2 q2) λd s3 ⟨z,H3,I3,r3,k,e,q3⟩=>?_)) hm
 subst e;cases r3;refine a0 ?_
 cases k with
 | false =>
  obtain⟨k',e',q'⟩:=q3;cases e';exact ite_ff ⟨H3,I3,q'⟩
 | true =>
  refine ite_tt (test_last (thn (hc ae s3 σ H3 _ I3 q3) λw' s4 ⟨z',H4,I4,r4,q4⟩=>thn (ho' ae s4 σ H4 y z' u w' _ I4 r2 r4 q4) λd' s5 ⟨z2,H5,I5,r5,k2,e2,q5⟩=>?_));subst e2;cases r5;exact a0 ⟨H5,I5,q5⟩
def TruV(K:PySem.W.Frag)(x:V)(H:Hp)(k:Bool):Prop :=
 match x with
 |.non=>k=false
 |.bl b=>k=b
 |.int i=>k=(i != 0)
 |.str y=>y.length<=sizeLine/\k=((y.length:Int) != 0)
 |.byt y=>y.size<=sizeLine/\k=((y.size:Int) != 0)
 |.ref p=>(∃xs,SqL K H p xs/\k=!xs.isEmpty)∨(∃xs,SqT K H p xs/\k=!xs.isEmpty)∨∃kvs,H p=some (.dK kvs)/\k=!kvs.isEmpty
 |_=>False
theorem isEmpty_kv{κ:Type}{kvs:List (κ×V)}{vs:List (κ×Value)}(r:KV kvs vs):(!vs.isEmpty)=!kvs.isEmpty:=by cases r<;>rfl
theorem isEmpty_of{xs:List V}{its:List Value}(r:Vals xs its):(!its.toArray.isEmpty)=!xs.isEmpty:=by cases r<;>simp
theorem line63:(sizeLine:Nat)<2^63:=by rw[sizeLine_eq];decide
theorem tru_ok:TruR X (λx H Q=>∃k,TruV X.K x H k/\Q k H):=by
 intro ae s σ H x v Q I rx h;obtain⟨k,e,q⟩:=h;have hl:=line63;have hs:sizeLine=16777216:=sizeLine_eq
 cases x with
 | non =>
  cases rx;have e':k=false:=e;subst e';exact truthy_none ⟨H,I,q⟩
 | bl b =>
  cases rx;have e':k=b:=e;subst e';exact a0 ⟨H,I,q⟩
 | int i =>
  obtain⟨t,rfl⟩:=rx;have e':k=(i != 0):=e;subst e';exact PySem.P.truthy_int ⟨H,I,q⟩
 | str y =>
  obtain⟨t,rfl⟩:=rx;obtain⟨hy,e'⟩:y.length<=sizeLine/\k=((y.length:Int) != 0):=e;subst e';exact PySem.P.truthy_str zZ ⟨H,I.tok _,q⟩
 | byt y =>
  obtain⟨t,rfl⟩:=rx;obtain⟨hy,e'⟩:y.size<=sizeLine/\k=((y.size:Int) != 0):=e;subst e';exact PySem.W.truthy_bytes zZ ⟨H,I.tok _,q⟩
 | ref p =>
  cases rx;have e':(∃xs,SqL X.K H p xs/\k=!xs.isEmpty)∨(∃xs,SqT X.K H p xs/\k=!xs.isEmpty)∨∃kvs,H p=some (.dK kvs)/\k=!kvs.isEmpty:=e;rcases e' with⟨xs,hx,e'⟩|⟨xs,hx,e'⟩|⟨kvs,hx,e'⟩
  . subst e';obtain⟨its,r,pl,hz⟩:=I.list hx;have af:=r.length;exact wpAny_truthy_list pl.isList (by simp only[aw];omega) ⟨H,I.tok _,by rw[isEmpty_of r];exact q⟩
  . subst e';obtain⟨its,r,pl,hz⟩:=I.tuple hx;have af:=r.length;exact truthy_tuple pl (by simp only[aw];omega) ⟨H,I.tok _,by rw[isEmpty_of r];exact q⟩
  . subst e';obtain⟨hz,hS,vs,r,m⟩:kvs.length<=sizeLine/\(p == sysModules)=false/\∃vs,KV kvs vs/\s.heap.DictOf (mixKind X.prog X.w) p vs:=I.hok p _ hx;have af:kvs.length=vs.length:=Paired.length r;exact wpAny_truthy_dict hS m zZ ⟨H,I.tok _,by rw[isEmpty_kv r];exact q⟩
 |_=>exact(show False from e).elim
theorem pt_truth(ha:PE X a ta)(he:∀whole,isTrue a X.env whole=(do let v <- whole;standAt a.pos;holding [v] (truthy v))) :
  PT X a (λσ H Q=>ta σ H λx H'=>∃k,TruV X.K x H' k/\Q k H'):=by
 intro ae s σ H Q I h;exact isTrue_plain (thn (ha ae s σ H _ I h) λv s1 ⟨x,H1,I1,r1,q1⟩=>tru_ok ae s1 σ H1 x v Q I1 r1 q1) (he _)
theorem op_add_str:OpR X (binaryOp .Add) (λx y H Q=>∃i j,x=.str i/\y=.str j/\i.length+j.length<=sizeLine/\Q (.str (i++j)) H):=by intro ae s σ H x y v u Q I rx ry h;obtain⟨i,j,rfl,rfl,hz,q⟩:=h;obtain⟨t,rfl⟩:=rx;obtain⟨t',rfl⟩:=ry;exact add_str (λt' tk=>⟨.str (i++j),H,I.tok _,⟨_,rfl⟩,q⟩) hz
theorem vals1{x:V}{us:List Value}(r:Vals [x] us):∃u,us=[u]/\RelV x u:=by
 cases r with
 |cons r1 r2=>cases r2;exact⟨_,rfl,r1⟩
theorem vals2{x y:V}{us:List Value}(r:Vals [x,y] us):∃u w',us=[u,w']/\RelV x u/\RelV y w':=by
 cases r with
 | cons r1 r2 =>
  cases r2 with
  |cons r3 r4=>cases r4;exact⟨_,_,rfl,r1,r3⟩
theorem call_abs:CallR X (.builtin "abs") (λxs H Q=>∃ i,xs=[.int i]/\Q (.int (if i < 0 then -i else i)) H):=by
 intro ae s σ H xs us Q I r h;obtain⟨i,rfl,q⟩:=h;obtain⟨u,rfl,t,rfl⟩:=vals1 r
 exact call_abs_int λu tk=>⟨.int (if i<0 then -i else i),H,I.tok _,⟨_,rfl⟩,q⟩
theorem call_max2(hc:X.calm=true):CallR X (.builtin "max") (λxs H Q=>∃ i j,xs=[.int i,.int j]/\Q (.int (if j > i then j else i)) H):=by
 intro ae s σ H xs us Q I r h;obtain⟨i,j,rfl,q⟩:=h;obtain⟨u,w',rfl,⟨t,rfl⟩,⟨t',rfl⟩⟩:=vals2 r;refine max_two_ints (I.ok.hd hc) λh' tk k=>⟨_,H,I.kept k,?_,q⟩;by_cases hj:j > i
 . rw[if_pos hj,if_pos hj];exact⟨_,rfl⟩
 . rw[if_neg hj,if_neg hj];exact⟨_,rfl⟩
theorem call_min2(hc:X.calm=true):CallR X (.builtin "min") (λxs H Q=>∃ i j,xs=[.int i,.int j]/\Q (.int (if j < i then j else i)) H):=by
 intro ae s σ H xs us Q I r h;obtain⟨i,j,rfl,q⟩:=h;obtain⟨u,w',rfl,⟨t,rfl⟩,⟨t',rfl⟩⟩:=vals2 r;refine min_two_ints (I.ok.hd hc) λh' tk k=>⟨_,H,I.kept k,?_,q⟩;by_cases hj:j<i
 . rw[if_pos hj,if_pos hj];exact⟨_,rfl⟩
 . rw[if_neg hj,if_neg hj];exact⟨_,rfl⟩
theorem call_int1:CallR X (.type "int") (λxs H Q=>(∃ i,xs=[.int i]/\Q (.int i) H)∨∃ k,xs=[.bl k]/\Q (.int (if k then 1 else 0)) H):=by
 intro ae s σ H xs us Q I r h;rcases h with⟨i,rfl,q⟩|⟨k,rfl,q⟩
 . obtain⟨u,rfl,t,rfl⟩:=vals1 r;exact call_int_int ⟨.int i,H,I,⟨_,rfl⟩,q⟩
 .
  obtain⟨u,rfl,r1⟩:=vals1 r;cases r1
  exact call_int_bool ⟨.int (if k then 1 else 0),H,I.tok _,⟨_,rfl⟩,q⟩
end
theorem lookIn_ns{h:Heap}{dx:Addr}{mA:Str->Option Value}(n:h.Ns1 dx mA):∃od,h.get? dx=some od/\∀name,PySem.W.lookIn name od=some (mA name):=by
 obtain⟨o,es,ep,ho,hd,hk,_,hm⟩:=n;refine⟨o,ho,λname=>?_⟩;have e:=hm name;unfold nsFind findBy at e;rw[<- Array.find?_toList]at e;unfold PySem.W.lookIn;rw[hd];dsimp only;split
 . rename_i y q;rw[q]at e;exact ck some e
 .
  rename_i q;rw[q]at e;have a:es.toList.any (·.refKey)=false:=by rw[List.any_eq_false];intro y hy;obtain⟨z,t,hkey⟩:=hk y (Array.mem_toList_iff.mp hy);simp[DictEntry.refKey,hkey]
  have a':¬es.toList.any (·.refKey)=true:=by rw[a];exact aF
  rw[if_neg a'];exact ck some e
section
variable{s:Shared}{f:Str}{A:Around}{E:Value->Shared->Prop}
theorem attr_of{prog:Program}{w:World}{env:Env}{e:Expr}{f:Str}{pos:Pos}{s:Shared}{Q:Value->Shared->Prop}(hb:attributeBase e f env (eval e env)=eval e env)
  (h:wpAny (model prog w) A (eval e env) (λo s₁=>wpAny (model prog w) A (getAttr o f true) Q E s₁) E s):wpAny (model prog w) A (eval (.Attribute e f pos) env) Q E s :=
 Attribute_any_ h (by rw[arm_eval_Attribute,hb])
end
structure Room (k:Nat) (A:Around):Prop where
 hd:A.handled=none
 dp:A.depth+3*k+5<recursionLimit
 un:A.units+16*k+200<cLine
 gd:A.guards=some []
theorem Room.mono{j k:Nat}{A:Around}(r:Room k A)(h:j<=k):Room j A:=⟨r.hd,by have:=r.dp;omega,by have:=r.un;omega,r.gd⟩
theorem Room.deeper{k:Nat}{A:Around}(r:Room (k+1) A)(env:Env):Room k (A.deeper env) :=
 ⟨r.hd,by have:=r.dp;show A.depth+1+3*k+5<_;omega,by have:=r.un;show A.units+3+16*k+200<_;omega,r.gd⟩
theorem make_depth{A:Around}{C:Addr}{us:List Value}{kw:List (Str×Value)}:(A.under (.builtin "type.__call__" ⟨.ref C::us,kw⟩)).depth=A.depth+1:=by
 first|rfl|simp[Around.under,Code.weight,Code.isCreation,Code.isGuard,Code.isCaller,Code.frames,Code.isFrame,guardIds]
theorem make_units{A:Around}{C:Addr}{us:List Value}{kw:List (Str×Value)}:(A.under (.builtin "type.__call__" ⟨.ref C::us,kw⟩)).units=A.units+1:=by
 first|rfl|simp[Around.under,Code.cUnits,Code.frames,Code.isFrame]
theorem Room.make{k:Nat}{A:Around}(r:Room (k+1) A)(C:Addr)(us:List Value)(kw:List (Str×Value)):Room k (A.under (.builtin "type.__call__" ⟨.ref C::us,kw⟩)) :=
 ⟨r.hd,by have:=r.dp;rw[make_depth];omega,by have:=r.un;rw[make_units];omega,by rw[<- r.gd];first|rfl|simp[Around.under,Code.guards,Code.isGuard,pushGuards,guardIds]⟩
theorem Room.depth{k:Nat}{A:Around}(r:Room k A):A.depth<recursionLimit:=by have:=r.dp;omega
theorem Room.units{k:Nat}{A:Around}(r:Room k A):A.units+64<cLine:=by have:=r.un;omega
noncomputable def tNil:TA:=λ_ H Q=>Q [] H
noncomputable def tCons(ta:TE)(tr:TA):TA:=λσ H Q=>ta σ H λx H1=>tr σ H1 λxs H2=>Q (x::xs) H2
section
variable{X:Cx}{e:Expr}{es:List Expr}{te:TE}{t:TA}{pos:Pos}
theorem pa_nil:PA X [] tNil:=λ_ _ _ _ H Q I h=>Calls.spliced_nil ⟨[],H,I,.nil,h⟩
theorem pa_cons(ha:PE X e te)(hr:PA X es t)(hs:starEach (e::es) X.env=(false,eval e X.env)::starEach es X.env:=by rfl):PA X (e::es) (tCons te t):=by intro pos ae s σ H Q I h;rw[hs];show wpAny _ _ (spliced ((false,eval e X.env)::backTo pos (starEach es X.env))) _ _ s;refine Calls.spliced_cons (thn (ha ae s σ H _ I h) λu s1 ⟨x,H1,I1,r1,q1⟩=>?_);exact thn (hr pos ae s1 σ H1 _ I1 q1) λus s2 ⟨xs,H2,I2,r2,q2⟩=>⟨x::xs,H2,I2,.cons r1 r2,q2⟩
end
noncomputable abbrev Sp:=List V->Hp->VK->XK->Prop
noncomputable abbrev CXT:=List Env->Hp->Shared->XK->Value->Shared->Prop
structure Env0 (P:Program) (w:World) (K:PySem.W.Frag) (mg:Str->Option Value) (base:Heap) (A:Around) (outer:List Env) (s:Shared) (H:Hp):Prop where
 frames:A.frames=some outer
 mod:Mod K mg base
 bs:∀b o,base.get? b=some o->s.heap.get? b=some o/\H b=none
 bsz:base.objs.size<=s.heap.objs.size
 funs:s.heap.FunFrames base outer
 frf:∀b∈frs outer,H b=none
 hok:HOk P w H s.heap
 bare:AllBare s.gens
 tbs:Tbs K H
def CE(outer:List Env)(P:Program)(w:World)(H:Hp)(s:Shared)(Q:VK)(u:Value)(s':Shared):Prop :=
 ∃v H',s'.os=s.os/\AllBare s'.gens/\Un (frs outer) [] H H' s.heap s'.heap/\HOk P w H' s'.heap/\RelV v u/\Q v H'
def CR(CX:CXT)(outer:List Env)(P:Program)(w:World)(H:Hp)(s:Shared)(Q:VK)(E:XK)(r:Result)(s':Shared):Prop :=
 match r with
 |.ok (.ret u)=>CE outer P w H s Q u s'
 |.ok _=>False
 |.error e=>CX outer H s E e s'
structure FnOk (P:Program) (w:World) (K:PySem.W.Frag) (mg:Str->Option Value) (base:Heap) (CX:CXT) (k:Nat) (f:Addr) (fd:FuncData) (ps:List Str) (sp:Sp):Prop where
 len:∀vs H Q E,sp vs H Q E->vs.length=ps.length
 run:∀(A:Around)(outer:List Env)(s:Shared)(H:Hp)(args:Args)(us:List Value)(vs:List V)(Q:VK)(E:XK),Room k A->Env0 P w K mg base A outer s H->BindsTo s fd args (ps.zip us)->Vals vs us->sp vs H Q E ->
  codeAny (model P w) A (.call (.ref f) args) (CR CX outer P w H s Q E) s
theorem FnOk.mono{P:Program}{w:World}{K:PySem.W.Frag}{mg:Str->Option Value}{base:Heap}{CX:CXT}{j k:Nat}{f:Addr}{fd:FuncData}{ps:List Str}{sp:Sp}(F:FnOk P w K mg base CX j f fd ps sp)(h:j<=k) :
  FnOk P w K mg base CX k f fd ps sp:=⟨F.len,λA outer s H args us vs Q E hr=>F.run A outer s H args us vs Q E (hr.mono h)⟩
theorem Env0.make{P:Program}{w:World}{K:PySem.W.Frag}{mg:Str->Option Value}{base:Heap}{A:Around}{outer:List Env}{s:Shared}{H:Hp}(e:Env0 P w K mg base A outer s H)(C:Addr)(us:List Value)(kw:List (Str×Value)) :
  Env0 P w K mg base (A.under (.builtin "type.__call__" ⟨.ref C::us,kw⟩)) outer s H:=⟨by first | exact e.frames | (simpa[Around.under,Code.envs,Code.isFrame,pushEnvs]using e.frames),e.mod,e.bs,e.bsz,e.funs,e.frf,e.hok,e.bare,e.tbs⟩
section
variable{X:Cx}{ae:List (Addr×Obj)}{σ:St}{H:Hp}{s s':Shared}
theorem Inv.env0(I:Inv X ae σ H s):Env0 X.prog X.w X.K X.mg X.base X.A X.stack s H :=
 ⟨I.ok.frames,I.ok.mod,I.bs,aG I.ok.bsz I.sz,I.stack,I.stkFree,I.hok,I.bare,I.tbs⟩
theorem Inv.after{Q:VK}{u:Value}(I:Inv X ae σ H s)(h:CE X.stack X.prog X.w H s Q u s'):EP X ae σ Q u s':=by obtain⟨v,H',os,bare,un,hok,r,q⟩:=h;obtain⟨hh,g,d,t,os'⟩:=s';obtain rfl:os'=s.os:=os;exact⟨v,H',I.call (h':=hh) (g':=g) (d':=d) (t':=t) (ch:=[]) un hok bare (λb z=>absurd z zY),r,q⟩
end
def Binds(K:PySem.W.Frag)(fd:FuncData)(ps:List Str)(ds:List Value):Prop :=
 ∀(s:Shared)(us:List Value),K.In s.heap->(us++ds).length=ps.length->BindsTo s fd ⟨us,[]⟩ (ps.zip (us++ds))
theorem Binds.all{K:PySem.W.Frag}{fd:FuncData}{ps:List Str}(h:∀us:List Value,us.length=ps.length->bindArgs fd ⟨us,[]⟩=pure (ps.zip us)):Binds K fd ps []:=λs us _ hl=>by rw[aV]at hl ⊢;exact .of_eq (h us hl)
def Passes(CX:CXT)(X:Cx)(E:XK):Prop:=∀(ae:List (Addr×Obj))(σ:St)(H:Hp)(s:Shared)(e:Value)(s':Shared),Inv X ae σ H s->CX X.stack H s E e s'->X.xe e s'
section
variable{X:Cx}{CX:CXT}{k:Nat}{f:Addr}{fd:FuncData}{ps:List Str}{sp:Sp}{dvs:List V}{ds:List Value}{E:XK}{e:Expr}
theorem run_fn{ae:List (Addr×Obj)}{σ:St}{H:Hp}{s:Shared}{Q:VK}{us:List Value}{vs:List V}(F:FnOk X.prog X.w X.K X.mg X.base CX k f fd ps sp)(hr:Room k X.A)(hb:Binds X.K fd ps ds)(hd:Vals dvs ds)(hx:Passes CX X E)
  (I:Inv X ae σ H s) (r:Vals vs us) (h:sp (vs++dvs) H Q E):wpAny (model X.prog X.w) X.A (call (.ref f) us) (EP X ae σ Q) X.xe s:=by
 have r2:Vals (vs++dvs) (us++ds):=r.append hd;have hl:(us++ds).length=ps.length:=by rw[<- r2.length];exact F.len _ _ _ _ h
 refine wpAny_call (codeAny_mono (F.run X.A X.stack s H ⟨us,[]⟩ (us++ds) (vs++dvs) Q E hr I.env0 (hb s us I.kIn hl) r2 h) λr s' hq=>?_)
 cases r with
 |error e=>exact hx ae σ H s e s' I hq
 | ok fl =>
  cases fl with
  |ret u=>exact I.after hq
  |next=>exact False.elim hq
  |brk=>exact False.elim hq
  |cont=>exact False.elim hq
end
structure FnScope (N P:List Str) (sc:Scope):Prop where
 kind:sc.kind=.function
 co:sc.isCoroutine=false
 gen:sc.isGenerator=false
 nd:N.Nodup
 pre:N.take P.length=P
 par:∀x∈P,sc.names.lookup x=some .local∨sc.names.lookup x=some .cell
 nofree:∀y∈sc.names,y.2≠.free
theorem bindL_out{kindOf:Str->Option NameKind}{x:Str}:∀{binds:List (Str×Value)}{m:Str->Option Value},(∀v,(x,v)∉binds)->bindL kindOf binds m x=m x
 |[],_,_=>rfl
 | (n,v)::r,m,h=>by
  unfold bindL;rw[bindL_out λw hw=>h w (ai _ hw)];split
  .
   have:x≠n:=by rintro rfl;exact h v ao
   simp[this]
  . rfl
theorem bindC_out{kindOf:Str->Option NameKind}{x:Str}:∀{binds:List (Str×Value)}{m:Str->Option Value},(∀v,(x,v)∉binds)->bindC kindOf binds m x=m x
 |[],_,_=>rfl
 | (n,v)::r,m,h=>by
  unfold bindC;rw[bindC_out λw hw=>h w (ai _ hw)];split
  . rfl
  .
   have:x≠n:=by rintro rfl;exact h v ao
   simp[this]
theorem bindL_get{kindOf:Str->Option NameKind}{x:Str}{v:Value}:∀{P:List Str}{vs:List Value}{i:Nat}{m:Str->Option Value},P.Nodup->P[i]?=some x->vs[i]?=some v->kindOf x=some .local ->
  bindL kindOf (P.zip vs) m x=some v
 |[],_,_,_,_,h,_,_=>by simp at h
 |_::_,[],_,_,_,_,h,_=>by simp at h
 | p::P,w::vs,0,m,nd,h1,h2,hk=>by simp at h1 h2;subst h1;subst h2;show bindL kindOf ((p,w)::P.zip vs) m p=_;unfold bindL;rw[bindL_out λv hv=>(aP.mp nd).1 (List.of_mem_zip hv).1,if_pos hk];simp
 | p::P,w::vs,i+1,m,nd,h1,h2,hk=>by show bindL kindOf ((p,w)::P.zip vs) m x=_;unfold bindL;exact bindL_get (i:=i) (aP.mp nd).2 (by simpa using h1) (by simpa using h2) hk
theorem bindC_get{kindOf:Str->Option NameKind}{x:Str}{v:Value}:∀{P:List Str}{vs:List Value}{i:Nat}{m:Str->Option Value},P.Nodup->P[i]?=some x->vs[i]?=some v->kindOf x≠some .local ->
  bindC kindOf (P.zip vs) m x=some v
 |[],_,_,_,_,h,_,_=>by simp at h
 |_::_,[],_,_,_,_,h,_=>by simp at h
 | p::P,w::vs,0,m,nd,h1,h2,hk=>by simp at h1 h2;subst h1;subst h2;show bindC kindOf ((p,w)::P.zip vs) m p=_;unfold bindC;rw[bindC_out λv hv=>(aP.mp nd).1 (List.of_mem_zip hv).1,if_neg hk];simp
 | p::P,w::vs,i+1,m,nd,h1,h2,hk=>by show bindC kindOf ((p,w)::P.zip vs) m x=_;unfold bindC;exact bindC_get (i:=i) (aP.mp nd).2 (by simpa using h1) (by simpa using h2) hk
noncomputable def start(N:List Str)(vs:List V):St:=vs.map some++List.replicate (N.length-vs.length) none
noncomputable def cxOf(CX:CXT)(P:Program)(w:World)(K:PySem.W.Frag)(mg:Str->Option Value)(base:Heap)(N:List Str)(qual:Str)(scope:Scope)(f:Addr)(cd:Value)(A:Around)(outer:List Env)(s:Shared)(H:Hp)(E:XK):Cx where
 prog:=P
 w:=w
 K:=K
 mg:=mg
 base:=base
 A:=A.deeper (envOfC qual scope s.heap.objs.size f cd)
 N:=N
 s₀:=s
 H₀:=H
 env:=envOfC qual scope s.heap.objs.size f cd
 outer:=outer
 stack:=envOfC qual scope s.heap.objs.size f cd::outer
 ex:=[]
 calm:=true
 fn:=λ_=>true
 pn:=[]
 xe:=λe s'=>wpAny (model P w) (A.deeper (envOfC qual scope s.heap.objs.size f cd)) (leaving (envOfC qual scope s.heap.objs.size f cd) e) (λ_ s''=>CX outer H s E e s'') (λe' s''=>CX outer H s E e' s'') s'
theorem cell_has{sc:Scope}{n:Nat}{x:Str}(h:sc.names.lookup x=some .cell):∃c,(cellsFrom n sc.names []).lookup x=some c:=by have q:=PySem.W.cellsFrom_some sc.names n [] (.inl h);exact Option.isSome_iff_exists.mp q
theorem inv_start{CX:CXT}{P:Program}{w:World}{K:PySem.W.Frag}{mg:Str->Option Value}{base:Heap}{N ps:List Str}{qual:Str}{scope:Scope}{f:Addr}{cd:Value}{A:Around}{outer:List Env}{s s1:Shared}{H:Hp}{E:XK}{us:List Value}{vs:List V}
  (S:FnScope N ps scope) (hd:A.handled=none) (e0:Env0 P w K mg base A outer s H) (hl:vs.length=ps.length) (r:Vals vs us)
  (x:InCallC s s.heap.objs.size (bindL (envOfC qual scope s.heap.objs.size f cd).kindOf (ps.zip us) λ_=>none) (cellsFrom (s.heap.objs.size+1) scope.names []) (bindC (envOfC qual scope s.heap.objs.size f cd).kindOf (ps.zip us) λ_=>none) s1) :
  Inv (cxOf CX P w K mg base N qual scope f cd A outer s H E) [] (start N vs) H s1:=by
 have hpl:ps.length<=N.length:=by have:=ck List.length S.pre;rw[cb]at this;omega
 obtain⟨h1,tk,rfl,hk⟩:=x.done;have noA:∀b:Addr,b∉(cxOf CX P w K mg base N qual scope f cd A outer s H E).ex:=λb z=>absurd (show b∈([]:List Addr)from z) zY
 refine⟨⟨e0.mod,S.kind,rfl,rfl,ay _,λy z c h1 h2=>?_,λy hy=>?_,λy c _ h=>?_,λ_=>hd,Around.frames_deeper e0.frames,.inr ⟨rfl,rfl⟩,λb z=>absurd z (noA b),e0.bs,e0.bsz,λb _ _=>noA b,λb z=>absurd z (noA b),e0.funs,e0.frf,e0.tbs⟩,
  rfl,e0.bare,Un.kept hk,⟨_,x.toInCall.ns,λi y v h1 h2 h3=>?_⟩,λy c h=>⟨_,x.cell y c h⟩,e0.hok.fresh (ay _),λy c h=>?_,λp hp=>absurd (show p∈([]:List (Addr×Obj))from hp) zY,e0.hok.kept hk,?_⟩
 . exact name_of_addr x.apart (bK h1) (bK h2)
 .
  have hy:scope.names.lookup y=some .cell∨scope.names.lookup y=some .free:=hy;rcases hy with hy|hy
  . exact cell_has hy
  . exact absurd rfl (S.nofree _ (bK hy))
 . exact Nat.le_of_lt (x.above y c (bK h))
 .
  have hi:i<vs.length:=by
   unfold start at h2;by_cases hi:i<vs.length
   . exact hi
   . rw[aA (by simpa using hi)]at h2;rw[List.getElem?_replicate]at h2;split at h2<;>cases h2
  have ha:vs[i]?=some v:=by
   unfold start at h2;rw[aK (by simpa using hi),bw]at h2
   cases e:vs[i]? with
   |none=>rw[e]at h2;cases h2
   |some a=>rw[e]at h2;cases h2;rfl
  obtain⟨u,hu,rv⟩:=r.get ha;have hp:ps[i]?=some y:=by rw[<- S.pre,List.getElem?_take_of_lt zZ];exact h1
  have ndP:ps.Nodup:=by rw[<- S.pre];exact S.nd.sublist (List.take_sublist _ _)
  refine⟨u,rv,?_⟩;rcases S.par y (bG hp)with k|k
  . exact .inl ⟨k,bindL_get ndP hp hu k⟩
  . obtain⟨c,e⟩:=cell_has (n:=s.heap.objs.size+1) k;refine .inr ⟨.inl k,c,e,?_⟩;have q:=x.cell y c e;rw[bindC_get ndP hp hu (by show scope.names.lookup y≠_;rw[k];decide)]at q;exact q
 . exact .inl (e0.hok.fresh (Nat.le_of_lt (x.above y c (bK h))))
 . unfold start;show _=N.length;rw[bA,aC,List.length_replicate];omega
theorem fn_of{CX:CXT}{P:Program}{w:World}{K:PySem.W.Frag}{mg:Str->Option Value}{base:Heap}{k:Nat}{f:Addr}{name qual:Str}{params:Arguments}{body:List Stmt}{scope:Scope}{dV kV doc pm cdv ct oc:Value}{an od:Option Addr}
  {osl:Array (Option Value)} {N ps:List Str} {sp:Sp} (lk:K.lookup f=some ⟨oc,od,.func (PySem.W.fnOf name qual params body scope dV kV doc pm an cdv ct),osl⟩) (hcd:PySem.W.codeIn K cdv qual=true) (S:FnScope N ps scope)
  (len:∀vs H Q E,sp vs H Q E->vs.length=ps.length)
  (hbody:∀(A:Around)(outer:List Env)(s:Shared)(H:Hp)(vs:List V)(Q:VK)(E:XK),Room k (A.deeper (envOfC qual scope s.heap.objs.size f cdv))->sp vs H Q E ->
   ∃t,PSs (cxOf CX P w K mg base N qual scope f cdv A outer s H E) body t/\t {nx:=λ_ H'=>Q .non H',rt:=Q} (start N vs) H) :
  FnOk P w K mg base CX (k+1) f (PySem.W.fnOf name qual params body scope dV kV doc pm an cdv ct) ps sp:=by
 refine⟨len,λA outer s H args us vs Q E hr e0 hb r hsp=>?_⟩;have hl:=len _ _ _ _ hsp;have KX:K.In s.heap:=e0.mod.kin.keeps λb o e=>(e0.bs b o e).1;have lim:s.heap.NoLimit:=e0.mod.nolimit.keeps λb o e=>(e0.bs b o e).1
 have hkind:∀y∈ps.zip us,scope.names.lookup y.1=some .local∨(scope.names.lookup y.1=some .cell/\((cellsFrom (s.heap.objs.size+1) scope.names []).lookup y.1).isSome=true):=fun⟨n,v⟩ hy=>by
  rcases S.par n (List.of_mem_zip hy).1 with q|q
  . exact .inl q
  . exact .inr ⟨q,PySem.W.cellsFrom_some _ _ _ (.inl q)⟩
 refine codeAny_call_function hr.depth (KX _ _ lk) rfl S.co S.gen rfl (PySem.W.codeRec_of KX hcd) (hb _ _ _ _ ?_);refine wpAny_newFunctionEnv_cells S.kind hkind λenv he s1 x=>?_;subst he;refine⟨lim.keeps x.toInCall.keep,codeAny_func ?_⟩;obtain⟨t,ht,hq⟩:=hbody A outer s H vs Q E (hr.deeper _) hsp;have I:Inv (cxOf CX P w K mg base N qual scope f cdv A outer s H E) [] (start N vs) H s1:=inv_start S hr.hd e0 hl r x;refine bu (ht [] s1 (start N vs) H _ I hq) (λfl s' hs=>?_) λe s' hs=>hs
 have fin:∀{σ':St}{H':Hp}{v:V}{u:Value},Inv (cxOf CX P w K mg base N qual scope f cdv A outer s H E) [] σ' H' s'->RelV v u->Q v H'->CE outer P w H s Q u s' :=
  λ{σ' H' v u} J rv q=>⟨v,H',J.os,J.bare,J.base,J.hok,rv,q⟩
 cases fl with
 | ret u =>
  obtain⟨v,σ',H',J,rv,q⟩:=hs;exact fin J rv q
 | next =>
  obtain⟨σ',H',J,q⟩:=hs;exact fin (v:=V.non) (u:=Value.none) J rfl q
 | brk =>
  obtain⟨_,_,_,q⟩:=hs;exact False.elim q
 | cont =>
  obtain⟨_,_,_,q⟩:=hs;exact False.elim q
section
variable{X:Cx}{x:Str}{p pos:Pos}{e:Expr}{es:List Expr}{t:TA}{id:String}{r:List V->Hp->VK->Prop}
def tCB(r:List V->Hp->VK->Prop)(t:TA):TE:=λσ H Q=>t σ H λvs H1=>r vs H1 Q
theorem pe_callB(hc:CallR X (.builtin id) r)(hg:Gl X x)(hm:X.mg x=none)(hv:bootBuiltins x=some (.builtin id))(ha:PA X (e::es) t) (hn:x≠"__name__":=by decide) (hdb:(x == ("__debug__" : Str))=false:=by decide)
  (he:starEach (e::es) X.env=(false,eval e X.env)::starEach es X.env:=by rfl) (hpl:(backTo pos (starEach es X.env)).any (·.1)=false:=by rfl):PE X (.Call (.Name x p) (e::es) [] pos) (tCB r t):=by
 intro ae s σ H Q I h;refine bh (ld_blt I hg hm hv ?_ hn hdb);exact PyProof.Rows.callWith_builtin1 (thn (ha pos ae s σ H _ I h) λus s1 ⟨vs,H1,I1,r1,q1⟩=>hc ae s1 σ H1 vs us Q I1 r1 q1) he hpl
end
end L2
namespace HT
open PySem PyProof.Rows
section
variable{prog:Program}{w:World}{A:Around}{E:Value->Shared->Prop}{s:Shared}
noncomputable def sIx(n d:Nat):Option Int->Nat
 |none=>d
 |some v=>if v<0 then(v+(n:Int)).toNat else min v.toNat n
theorem sIx_le(n d:Nat)(hd:d<=n)(o:Option Int):sIx n d o<=n:=by
 cases o with
 |none=>exact hd
 | some v =>
  show(if v<0 then(v+(n:Int)).toNat else min v.toNat n)<=n
  by_cases hv:v<0
  . rw[if_pos hv];omega
  . rw[if_neg hv];exact Nat.min_le_right _ _
theorem clip_eq(v:Int)(n d:Nat):(if v<0 then max (v+(n:Int)) 0 else min v (n:Int))=((sIx n d (some v):Nat):Int):=by
 show(if v<0 then max (v+(n:Int)) 0 else min v (n:Int))=(((if v<0 then(v+(n:Int)).toNat else min v.toNat n):Nat):Int)
 by_cases hv:v<0
 . simp only[if_pos hv];omega
 . simp only[if_neg hv];omega
theorem adjust_gen(lo hi:Option Int)(n:Nat):Builtin.Slice.sliceAdjust lo hi 1 (n:Int)=(((sIx n 0 lo:Nat):Int),((sIx n n hi:Nat):Int)):=by
 have h1:¬((1:Int)<0):=by omega
 unfold Builtin.Slice.sliceAdjust;simp only[h1,if_false];refine Prod.ext ?_ ?_
 .
  cases lo with
  |none=>rfl
  |some v=>exact clip_eq v n 0
 .
  cases hi with
  |none=>rfl
  |some v=>exact clip_eq v n n
theorem places_gen(i j:Nat):Builtin.Slice.slicePlaces (i:Int) (j:Int) 1=j-i:=by
 unfold Builtin.Slice.slicePlaces;have h1:(1:Int) > 0:=by omega
 simp only[h1,if_true,Int.ediv_one];split<;>omega
theorem slicePart_{v:Value}{o:Option Int}{Q:Option Int->Shared->Prop}(p:IsPart v o)(h:Q o s):wpAny (model prog w) A (Builtin.Slice.slicePartIndex v) Q E s:=by
 cases p with
 |none=>exact slicePart_none h
 |int i t=>exact slicePart_int h
theorem sliceApplied_gen{sl:Addr}{vl vu:Value}{lo hi:Option Int}{n:Nat}{Q:Int×Int×Nat->Shared->Prop}(hs:s.heap.IsSliceOf sl vl vu .none)(pl:IsPart vl lo)(pu:IsPart vu hi)
  (h:Q (((sIx n 0 lo:Nat):Int),1,sIx n n hi-sIx n 0 lo) s):wpAny (model prog w) A (Builtin.Slice.sliceApplied (.ref sl) (pure (n:Int))) Q E s:=by
 obtain⟨os,hos,hcs,hds⟩:=id hs;unfold Builtin.Slice.sliceApplied Builtin.Slice.sliceFields;refine ah (ah (cf hos hds (x:=vl) rfl (ah (cf hos hds (x:=vu) rfl (ah (cf hos hds (x:=.none) rfl (ar ?_)))))));refine ah (slicePart_none ?_)
 show wpAny _ _ (if((1:Int) == 0)=true then _ else _) _ _ s
 rw[if_neg (by decide)];refine ah (slicePart_ pl (ah (slicePart_ pu (ah (ar ?_)))))
 show wpAny _ _ (match Builtin.Slice.sliceAdjust lo hi 1 (n:Int)with|(lo,hi)=>pure (lo,(1:Int),Builtin.Slice.slicePlaces lo hi 1)) _ _ s
 rw[adjust_gen lo hi n];show wpAny _ _ (pure (((sIx n 0 lo:Nat):Int),(1:Int),Builtin.Slice.slicePlaces ((sIx n 0 lo:Nat):Int) ((sIx n n hi:Nat):Int) 1)) _ _ s;rw[places_gen];exact ar h
theorem pick_gen(xs:Array Value)(i k:Nat):((List.range k).filterMap λ(m:Nat)=>xs[((i:Int)+(m:Int)*1).toNat]?).toArray=((xs.toList.drop i).take k).toArray:=by
 have e:(λ(m:Nat)=>xs[((i:Int)+(m:Int)*1).toNat]?)=λm=>xs[i+m]?:=by
  funext m
  have:((i:Int)+(m:Int)*1).toNat=i+m:=by omega
  rw[this]
 rw[e];have:=pick_run xs i k;rw[List.filterMap_map]at this;have e2:((λx=>xs[x]?) ∘ λx=>i+x)=λm=>xs[i+m]?:=rfl;rw[e2]at this;rw[this]
theorem getItem_tuple_cut{t sl:Addr}{items:Array Value}{vl vu:Value}{lo hi:Option Int}{Q:Value->Shared->Prop}(ht:IsTup s.heap t items)(hs:s.heap.IsSliceOf sl vl vu .none)(pl:IsPart vl lo)(pu:IsPart vu hi)
  (hw:¬(sIx items.size 0 lo=0/\sIx items.size items.size hi=items.size))
  (h:Q (.ref s.heap.objs.size) {s with heap:=s.heap.push {cls:=.type "tuple",data:=.seq ((items.toList.drop (sIx items.size 0 lo)).take (sIx items.size items.size hi-sIx items.size 0 lo)).toArray} })
  (hsz:items.size<=sizeLine):wpAny (model prog w) A (getItem (.ref t) (.ref sl)) Q E s:=by
 have htake:sizeOk (.seq ((items.toList.drop (sIx items.size 0 lo)).take (sIx items.size items.size hi-sIx items.size 0 lo)).toArray):=by show((items.toList.drop (sIx items.size 0 lo)).take (sIx items.size items.size hi-sIx items.size 0 lo)).toArray.size<=sizeLine;rw[aw,cb,bc,Array.length_toList];omega
 have hj:sIx items.size items.size hi<=items.size:=sIx_le _ _ (ay _) hi;obtain⟨os,hos,hcs,hds⟩:=id hs;have hTs:s.TypeIs (.ref sl) "slice":=⟨os,hos,hcs⟩;unfold getItem
 try with_reducible refine bF ?_
 first|refine ah (ar ?_)|skip
 refine ah (wpAny_sequenceKey ht.typeIs ze ?_)
 refine ah (wpAny_callSpecial?_slot (name:=Str.ofString "__getitem__") ht.typeIs PyProof.Rows.slot_tuple_getitem
  (wpAny_call_entry PyProof.Rows.slot_tuple_getitem ht.typeIs entry_tuple_getitem ?_ (args_tuple_getitem _ _)))
 show wpAny _ _ (Builtin.Tuple.tupleItemsOf (.ref t) >>= _) _ _ s;refine ah (tupleItemsOf_ ht ?_);refine ah (wpAny_typeOf hTs ?_);rw[if_pos (by decide)];refine ah (sliceApplied_gen hs pl pu ?_);have hno:¬((((sIx items.size 0 lo:Nat):Int) == 0 && (1:Int) == 1 && (sIx items.size items.size hi-sIx items.size 0 lo) == items.size)=true):=by intro q;rw[aL,aL]at q;have q1:((sIx items.size 0 lo:Nat):Int)=0:=eq_of_beq q.1.1;have q2:sIx items.size items.size hi-sIx items.size 0 lo=items.size:=eq_of_beq q.2;exact hw ⟨zZ,zZ⟩
 show wpAny _ _ (if(((sIx items.size 0 lo:Nat):Int) == 0 && (1:Int) == 1 && (sIx items.size items.size hi-sIx items.size 0 lo) == items.size)=true then _ else _) _ _ s
 rw[if_neg hno,pick_gen]
 first
  |exact ah (m:=Builtin.Tuple.tupleExact _) (bJ (ar ⟨_,rfl,ar h⟩) htake)
  |exact ah (m:=Builtin.Tuple.tupleExact _) (bJ (ah (ar (ar ⟨_,rfl,ar h⟩))) htake)
  |exact ah (ah (m:=Builtin.Tuple.tupleExact _) (bJ (ar (ar ⟨_,rfl,ar h⟩)) htake))
  |exact ah (ah (m:=Builtin.Tuple.tupleExact _) (bJ (ar ⟨_,rfl,ar h⟩) htake))
end
end HT
namespace L2
open PySem PySem.Spec PyProof.Rows
noncomputable abbrev TO:=St->Hp->(Option Int->Hp->Prop)->Prop
def PO(X:Cx)(e:Option Expr)(t:TO):Prop :=
 ∀(ae:List (Addr×Obj))(s:Shared)(σ:St)(H:Hp)(Q:Option Int->Hp->Prop),Inv X ae σ H s->t σ H Q ->
  wpAny (model X.prog X.w) X.A (evalPart e X.env) (λu s'=>∃o H',Inv X ae σ H' s'/\IsPart u o/\Q o H') X.xe s
noncomputable def tNoPart:TO:=λ_ H Q=>Q none H
noncomputable def tPart(t:TE):TO:=λσ H Q=>t σ H λx H1=>∃i,x=.int i/\Q (some i) H1
section
variable{X:Cx}{e:Expr}{te:TE}{lo hi:Option Expr}{tl th:TO}{pos p2:Pos}
theorem po_none:PO X none tNoPart:=by intro ae s σ H Q I h;rw[evalPart_none];exact ar ⟨none,H,I,.none,h⟩
theorem po_some(h:PE X e te):PO X (some e) (tPart te):=by intro ae s σ H Q I hw;rw[evalPart_some];refine thn (h ae s σ H _ I hw) λu s1 ⟨x,H1,I1,r1,q1⟩=>?_;obtain⟨i,rfl,q⟩:=q1;obtain⟨t,rfl⟩:=r1;exact⟨some i,H1,I1,.int i t,q⟩
def SlR(X:Cx)(r:V->Option Int->Option Int->Hp->VK->Prop):Prop :=
 ∀(ae:List (Addr×Obj))(s:Shared)(σ:St)(H:Hp)(x:V)(v vl vu:Value)(lo hi:Option Int)(sl:Addr)(Q:VK),Inv X ae σ H s->RelV x v->s.heap.IsSliceOf sl vl vu .none->IsPart vl lo->IsPart vu hi->r x lo hi H Q ->
  ∃ T id,typeLookup (.type T) "__getitem__"=pure (some (.builtin id))/\s.TypeIs v T/\wpAny (model X.prog X.w) X.A (getItem v (.ref sl)) (EP X ae σ Q) X.xe s
theorem SlR.or{r r':V->Option Int->Option Int->Hp->VK->Prop}(h:SlR X r)(h':SlR X r'):SlR X (λx lo hi H Q=>r x lo hi H Q∨r' x lo hi H Q):=by
 intro ae s σ H x v vl vu lo hi sl Q I rx hs pl pu q;rcases q with q|q
 . exact h ae s σ H x v vl vu lo hi sl Q I rx hs pl pu q
 . exact h' ae s σ H x v vl vu lo hi sl Q I rx hs pl pu q
def tSl(r:V->Option Int->Option Int->Hp->VK->Prop)(te:TE)(tl th:TO):TE:=λσ H Q=>te σ H λx H1=>tl σ H1 λl H2=>th σ H2 λu H3=>r x l u H3 Q
theorem pe_slice{r:V->Option Int->Option Int->Hp->VK->Prop}(hr:SlR X r)(he:PE X e te)(hl:PO X lo tl)(hu:PO X hi th):PE X (.Subscript e (.Slice lo hi none p2) pos) (tSl r te tl th):=by intro ae s σ H Q I h;refine Subscript_ (thn (he ae s σ H _ I h) λv s1 ⟨x,H1,I1,r1,q1⟩=>?_);refine wpAny_Slice (thn (hl ae s1 σ H1 _ I1 q1) λvl s2 ⟨l,H2,I2,pl,q2⟩=>thn (hu ae s2 σ H2 _ I2 q2) λvu s3 ⟨u,H3,I3,pu,q3⟩=>?_);rw[evalPart_none];refine ar ?_;have I4:Inv X ae σ H3 {s3 with heap:=s3.heap.push {cls:=.type "slice",data:=.fields #[vl,vu,.none] } }:=I3.kept (t':=s3.toks) λb ob q=>aq _ q;obtain⟨T,id,hT,ht,hg⟩:=hr ae {s3 with heap:=s3.heap.push {cls:=.type "slice",data:=.fields #[vl,vu,.none] } } σ H3 x v vl vu l u s3.heap.objs.size Q I4 r1 (Heap.IsSliceOf.new ..) pl pu q3;show wpAny (model X.prog X.w) X.A (subscriptTail e (.Slice lo hi none p2) v (.ref s3.heap.objs.size)) (EP X ae σ Q) X.xe {s3 with heap:=s3.heap.push {cls:=.type "slice",data:=.fields #[vl,vu,.none] } };exact tail_any (ops:=[.ref s3.heap.objs.size,v]) ht hT hg (by with_unfolding_all rfl)
noncomputable def cutV(xs:List V)(lo hi:Option Int):List V:=(xs.drop (HT.sIx xs.length 0 lo)).take (HT.sIx xs.length xs.length hi-HT.sIx xs.length 0 lo)
theorem cutV_length(xs:List V)(lo hi:Option Int):(cutV xs lo hi).length<=xs.length:=by unfold cutV;rw[cb,bc];omega
def rSlT(K:PySem.W.Frag):V->Option Int->Option Int->Hp->VK->Prop:=λx lo hi H Q=>∃a xs,x=.ref a/\SqT K H a xs /\
 ¬(HT.sIx xs.length 0 lo=0/\HT.sIx xs.length xs.length hi=xs.length)/\∀p,H p=none->Q (.ref p) (upd H p (.tup (cutV xs lo hi)))
theorem sl_tup:SlR X (rSlT X.K):=by
 intro ae s σ H x v vl vu lo hi sl Q I rx hs pl pu h;obtain⟨a,xs,rfl,hx,hw,q⟩:=h;cases rx;obtain⟨its,r,ht,hz⟩:=I.tuple hx;have af:its.toArray.size=xs.length:=by rw[aw];exact r.length.symm
 refine⟨"tuple",_,PyProof.Rows.slot_tuple_getitem.lookup,ht.typeIs,?_⟩;refine HT.getItem_tuple_cut ht hs pl pu (by rw[af];exact hw) ?_ (by rw[af];exact hz);rw[af];refine⟨.ref s.heap.objs.size,_,I.laid (t':=s.toks) (o:=.tup (cutV xs lo hi)) (λb ob q=>aq _ q) (ay _) ?_,rfl,q _ (I.hok.fresh (ay _))⟩;exact⟨aG (cutV_length xs lo hi) hz,_,(r.drop (HT.sIx xs.length 0 lo)).take (HT.sIx xs.length xs.length hi-HT.sIx xs.length 0 lo),IsTup.new _ _⟩
end
noncomputable def ixN(n:Nat)(i:Int):Option Nat:=if 0<=i then(if i<n then some i.toNat else none)else if -(n:Int)<=i then some (i+n).toNat else none
noncomputable def atI{α:Type}(xs:List α)(i:Int):Option α:=(ixN xs.length i).bind λj=>xs[j]?
theorem ixN_seq{n:Nat}{i:Int}{j:Nat}(h:ixN n i=some j):seqIndex? i n=some j/\j<n/\-(n:Int)<=i/\i<n:=by
 unfold ixN at h;by_cases h0:0<=i
 .
  rw[if_pos h0]at h;by_cases h1:i<n
  . rw[if_pos h1]at h;have e:i.toNat=j:=aW h;exact⟨by rw[seqIndex_of h0 h1,e],zZ,zZ,h1⟩
  . rw[if_neg h1]at h;cases h
 .
  rw[if_neg h0]at h;by_cases h1 : -(n:Int)<=i
  . rw[if_pos h1]at h;have e:(i+n).toNat=j:=aW h;exact⟨by rw[seqIndex_neg zZ h1,e],zZ,h1,zZ⟩
  . rw[if_neg h1]at h;cases h
theorem atI_get{α:Type}{xs:List α}{i:Int}{v:α}(h:atI xs i=some v):∃j,seqIndex? i xs.length=some j/\xs[j]?=some v/\j<xs.length/\-(xs.length:Int)<=i/\i<xs.length:=by
 unfold atI at h
 cases e:ixN xs.length i with
 |none=>rw[e]at h;cases h
 | some j =>
  rw[e]at h;obtain⟨h1,h2,h3,h4⟩:=ixN_seq e;exact⟨j,h1,h,h2,h3,h4⟩
theorem atI_nat{α:Type}{xs:List α}{j:Nat}{v:α}(h:xs[j]?=some v):atI xs (j:Int)=some v:=by
 have hj:j<xs.length:=(ak.mp h).1;have e:ixN xs.length (j:Int)=some j:=by unfold ixN;rw[if_pos (by omega),if_pos (by omega)];simp
 unfold atI;rw[e];exact h
def PlainIx(b:Expr):Prop:=∀o i,subscripted b false o i=operate [o,i] (getItem o i)
def IxR(X:Cx)(r:R2):Prop :=
 ∀(value slice:Expr)(ae:List (Addr×Obj))(s:Shared)(σ:St)(H:Hp)(x y:V)(v u:Value)(Q:VK),Inv X ae σ H s->RelV x v->RelV y u->r x y H Q ->
  subscripted slice false v u=operate [v,u] (getItem v u)->wpAny (model X.prog X.w) X.A (subscriptTail value slice v u) (EP X ae σ Q) X.xe s
def MtR(X:Cx)(id:String)(r:V->List V->Hp->VK->Prop):Prop :=
 ∀(ae:List (Addr×Obj))(s:Shared)(σ:St)(H:Hp)(x:V)(xs:List V)(v:Value)(us:List Value)(Q:VK),Inv X ae σ H s->RelV x v->Vals xs us->r x xs H Q ->
  wpAny (model X.prog X.w) X.A (call (.builtin id) (v::us)) (EP X ae σ Q) X.xe s
section
variable{X:Cx}{a b:Expr}{ta tb:TE}{pos:Pos}
theorem pe_ix{r:R2}(hr:IxR X r)(ha:PE X a ta)(hb:PE X b tb)(hs:PlainIx b):PE X (.Subscript a b pos) (tOp r ta tb):=by intro ae s σ H Q I h;exact Subscript_ (binT ha hb I h λv u s2 x y H2 I2 rx ry q=>hr a b ae s2 σ H2 x y v u Q I2 rx ry q (hs _ _))
def rIxL(K:PySem.W.Frag):R2:=λx y H Q=>∃p xs i v,x=.ref p/\y=.int i/\SqL K H p xs/\atI xs i=some v/\Q v H
def rIxT(K:PySem.W.Frag):R2:=λx y H Q=>∃p xs i v,x=.ref p/\y=.int i/\SqT K H p xs/\atI xs i=some v/\Q v H
def rIxS:R2:=λx y H Q=>∃z i c,x=.str z/\y=.int i/\z.length<=sizeLine/\atI z.cps.toList i=some c/\Q (.str ⟨#[c]⟩) H
theorem ix_list:IxR X (rIxL X.K):=by
 intro value slice ae s σ H x y v u Q I rx ry h hs;obtain⟨p,xs,i,z,rfl,rfl,hq,he,q⟩:=h;cases rx;obtain⟨t,rfl⟩:=ry;obtain⟨its,r,pl,hz⟩:=I.list hq;obtain⟨j,h1,h2,h3,h4,h5⟩:=atI_get he;obtain⟨w,ew,rw'⟩:=r.get h2;have hl:=r.length;have hn:=line63;have fin:EP X ae σ Q w s:=⟨z,H,I,rw',q⟩;by_cases h0:0<=i
 .
  have hj:i.toNat=j:=by rw[seqIndex_of h0 h5]at h1;exact aW h1
  exact item_listR pl.isList h0 zZ (by rw[hj];simpa using ew) fin hs
 .
  have hj:(i+(its.toArray.size:Int)).toNat=j:=by rw[seqIndex_neg zZ h4]at h1;rw[aw,<- hl];exact aW h1
  exact subscriptTail_builtinR (x:=w) pl.isList.typeIs slot_list_getitem.lookup
   (wpAny_getItem_list_neg (Q:=λr s'=>r=w/\EP X ae σ Q r s') pl.isList zZ (by rw[aw]<;>omega) zZ (by rw[hj];simpa using ew) ⟨rfl,fin⟩) hs
theorem ix_tup:IxR X (rIxT X.K):=by
 intro value slice ae s σ H x y v u Q I rx ry h hs;obtain⟨p,xs,i,z,rfl,rfl,hq,he,q⟩:=h;cases rx;obtain⟨t,rfl⟩:=ry;obtain⟨its,r,pl,hz⟩:=I.tuple hq;obtain⟨j,h1,h2,h3,h4,h5⟩:=atI_get he;obtain⟨w,ew,rw'⟩:=r.get h2;have hl:=r.length;have hn:=line63;have fin:EP X ae σ Q w s:=⟨z,H,I,rw',q⟩
 exact subscriptTail_builtinR (x:=w) pl.typeIs slot_tuple_getitem.lookup
  (getItem_tuple (j:=j) (Q:=λr s'=>r=w/\EP X ae σ Q r s') pl zZ zZ (by rw[aw,<- hl];exact h1) (by simpa using ew) ⟨rfl,fin⟩) hs
theorem ix_str:IxR X rIxS:=by
 intro value slice ae s σ H x y v u Q I rx ry h hs;obtain⟨z,i,c,rfl,rfl,hz,he,q⟩:=h;obtain⟨t,rfl⟩:=rx;obtain⟨t',rfl⟩:=ry;obtain⟨j,h1,h2,h3,h4,h5⟩:=atI_get he;have hl:z.cps.toList.length=z.length:=by simp[Str.length]
 rw[hl]at h1 h4 h5;have hn:=line63
 exact tail_any (typeIs_str s z t) slot_str_getitem.lookup (getItem_str (c:=c) (by
  have e1:decide (i < -(2^63:Int))=false:=bb zZ;have e2:decide (i≥2^63)=false:=bb zZ
  rw[e1,e2,bZ]) (by rw[h1];simpa using h2) ⟨.str ⟨#[c]⟩,H,I.tok _,⟨_,rfl⟩,q⟩) hs
theorem mapSeq_set(its:List Value)(n j:Nat)(u:Value):Obj.mapSeq (·.setIfInBounds j u) {cls:=.type "list",data:=.seq its.toArray n}={cls:=.type "list",data:=.seq (its.set j u).toArray n}:=by simp[Obj.mapSeq]
theorem Inv.lst{ae:List (Addr×Obj)}{σ:St}{H:Hp}{s:Shared}{p:Addr}{xs:List V}(I:Inv X ae σ H s)(h:H p=some (.lst xs)) :
  ∃(its:List Value)(n:Nat),Vals xs its/\s.heap.get? p=some {cls:=.type "list",data:=.seq its.toArray n}/\xs.length<=sizeLine:=by
 obtain⟨z,its,n,r,e⟩:=I.hok p _ h;exact⟨its,n,r,e,z⟩
theorem Inv.lstUpd{ae:List (Addr×Obj)}{σ:St}{H:Hp}{s:Shared}{p:Addr}{xs ys:List V}{its its':List Value}{n n':Nat}{f:Obj->Obj}(I:Inv X ae σ H s)(h:H p=some (.lst xs))
  (ho:s.heap.get? p=some {cls:=.type "list",data:=.seq its.toArray n}) (hf:f {cls:=.type "list",data:=.seq its.toArray n}={cls:=.type "list",data:=.seq its'.toArray n' }) (r:Vals ys its') (hz:ys.length<=sizeLine) (t:Nat) :
  Inv X ae σ (upd H p (.lst ys)) {s with heap:=s.heap.update p f,toks:=t}:=by
 have e:(s.heap.update p f).get? p=some {cls:=.type "list",data:=.seq its'.toArray n' }:=by rw[bz f ho (by rw[hf]<;>rfl),hf]
 refine I.write (x:=p) (e:=p) (by rw[h];trivial) (.inl rfl) (λb u hb q=>(aN _ _ (bN hb)).trans q) ⟨_,e⟩ ?_;exact⟨hz,its',n',r,e⟩
def rSetL:V->V->V->Hp->(Hp->Prop)->Prop:=λo i v H Q=>∃p xs k j,o=.ref p/\i=.int k/\H p=some (.lst xs)/\ixN xs.length k=some j/\Q (upd H p (.lst (xs.set j v)))
theorem set_list:PSet X rSetL:=by
 intro ae s σ H o i v ov iv u Q I ro ri rv h;obtain⟨p,xs,k,j,rfl,rfl,hp,hj,q⟩:=h;cases ro;obtain⟨t,rfl⟩:=ri;obtain⟨its,n,r,ho,hz⟩:=I.lst hp;obtain⟨h1,h2,h3,h4⟩:=ixN_seq hj;have hl:=r.length;have hn:=line63
 have I':Inv X ae σ (upd H p (.lst (xs.set j v))) {s with heap:=s.heap.update p (Obj.mapSeq (·.setIfInBounds j u)) } :=
  I.lstUpd hp ho (mapSeq_set its n j u) (r.set rv j) (by rw[List.length_set];exact hz) s.toks
 by_cases h0:0<=k
 .
  have hk:k.toNat=j:=by rw[seqIndex_of h0 h4]at h1;exact aW h1
  exact PySem.W.ki_setAt ho h0 zZ (by rw[aw,<- hl];exact h4) (by rw[hk];exact⟨_,I',q⟩)
 .
  have hk:(k+(its.toArray.size:Int)).toNat=j:=by rw[seqIndex_neg zZ h3]at h1;rw[aw,<- hl];exact aW h1
  exact PySem.W.ki_setBack ho zZ (by rw[aw,<- hl];exact h3) zZ (by rw[hk];exact⟨_,I',q⟩)
theorem slice_bounds(lo hi:Option Int)(n:Nat):(sliceBounds lo hi none n).1=((HT.sIx n 0 lo:Nat):Int)/\(sliceBounds lo hi none n).2.1=((HT.sIx n n hi:Nat):Int)/\(sliceBounds lo hi none n).2.2=1:=by
 refine⟨?_,?_,rfl⟩
 .
  cases lo with
  |none=>simp[sliceBounds,HT.sIx]
  | some i =>
   simp only[sliceBounds,HT.sIx,Option.getD_none,show(1:Int) > 0 by decide,if_true];by_cases h:i<0
   . simp only[h,if_true]<;>omega
   . simp only[h,if_false]<;>omega
 .
  cases hi with
  |none=>simp[sliceBounds,HT.sIx]
  | some i =>
   simp only[sliceBounds,HT.sIx,Option.getD_none,show(1:Int) > 0 by decide,if_true];by_cases h:i<0
   . simp only[h,if_true]<;>omega
   . simp only[h,if_false]<;>omega
theorem slicePick_cut(its:List Value)(lo hi:Option Int):slicePick its.toArray lo hi none=((its.drop (HT.sIx its.length 0 lo)).take (HT.sIx its.length its.length hi-HT.sIx its.length 0 lo)).toArray:=by obtain⟨h1,h2,h3⟩:=slice_bounds lo hi its.toArray.size;unfold slicePick;rw[h1,h2,h3];simp only[sliceRange_one,pick_run,aw]<;>rfl
def rSlL(K:PySem.W.Frag):V->Option Int->Option Int->Hp->VK->Prop:=λx lo hi H Q=>∃a xs,x=.ref a/\SqL K H a xs/\∀p,H p=none->Q (.ref p) (upd H p (.lst (cutV xs lo hi)))
theorem sl_list:SlR X (rSlL X.K):=by intro ae s σ H x v vl vu lo hi sl Q I rx hs pl pu h;obtain⟨a,xs,rfl,hx,q⟩:=h;cases rx;obtain⟨its,r,ht,hz⟩:=I.list hx;have af:=r.length;refine⟨"list",_,slot_list_getitem.lookup,ht.isList.typeIs,?_⟩;refine wpAny_getItem_list_slice ht.isList hs pl pu .none zY ?_ (by rw[aw]<;>omega);rw[slicePick_cut,<- af];refine⟨.ref s.heap.objs.size,_,I.laid (t':=s.toks) (o:=.lst (cutV xs lo hi)) (λb ob q=>aq _ q) (ay _) ?_,rfl,q _ (I.hok.fresh (ay _))⟩;exact⟨aG (cutV_length xs lo hi) hz,_,0,(r.drop (HT.sIx xs.length 0 lo)).take (HT.sIx xs.length xs.length hi-HT.sIx xs.length 0 lo),aU _ rfl⟩
noncomputable def flatV:V->Bool
 |.non=>true
 |.bl _=>true
 |.int _=>true
 |.str _=>true
 |_=>false
noncomputable def eqV:V->V->Bool
 |.non,.non=>true
 |.bl a,.bl b=>a == b
 |.bl a,.int b=>(if a then 1 else 0) == b
 |.int a,.bl b=>a == (if b then 1 else 0)
 |.int a,.int b=>a == b
 |.str a,.str b=>a == b
 |_,_=>false
theorem eqAt_V{A:Around}{s:Shared}{y x:V}{u v:Value}(ry:RelV y u)(rx:RelV x v)(fy:flatV y=true)(fx:flatV x=true):SeqAt.EqAt A s u v (eqV y x):=by
 cases y with
 | non =>
  cases ry
  cases x with
  |non=>cases rx;exact SeqAt.EqAt.same _
  |bl b=>cases rx;exact SeqAt.EqAt.none_bool b
  |int b=>obtain⟨t,rfl⟩:=rx;exact SeqAt.EqAt.none_int b t
  |str b=>obtain⟨t,rfl⟩:=rx;exact SeqAt.EqAt.none_str b t
  |_=>exact absurd (show false=true from fx) aF
 | bl a =>
  cases ry
  cases x with
  |non=>cases rx;exact SeqAt.EqAt.bool_none a
  |bl b=>cases rx;exact SeqAt.EqAt.bool_bool a b
  |int b=>obtain⟨t,rfl⟩:=rx;exact SeqAt.EqAt.bool_int a b t
  |str b=>obtain⟨t,rfl⟩:=rx;exact SeqAt.EqAt.bool_str a b t
  |_=>exact absurd (show false=true from fx) aF
 | int a =>
  obtain⟨t',rfl⟩:=ry
  cases x with
  |non=>cases rx;exact SeqAt.EqAt.int_none a t'
  |bl b=>cases rx;exact SeqAt.EqAt.int_bool a t' b
  |int b=>obtain⟨t,rfl⟩:=rx;exact SeqAt.EqAt.int_int a t' b t
  |str b=>obtain⟨t,rfl⟩:=rx;exact SeqAt.EqAt.int_str a t' b t
  |_=>exact absurd (show false=true from fx) aF
 | str a =>
  obtain⟨t',rfl⟩:=ry
  cases x with
  |non=>cases rx;exact SeqAt.EqAt.str_none a t'
  |bl b=>cases rx;exact SeqAt.EqAt.str_bool a t' b
  |int b=>obtain⟨t,rfl⟩:=rx;exact SeqAt.EqAt.str_int a t' b t
  |str b=>obtain⟨t,rfl⟩:=rx;exact SeqAt.EqAt.str_str a t' b t
  |_=>exact absurd (show false=true from fx) aF
 |_=>exact absurd (show false=true from fy) aF
noncomputable def eqU(x:V)(u:Value):Bool:=match u with
 |.none=>eqV .non x
 |.bool b=>eqV (.bl b) x
 |.int i _=>eqV (.int i) x
 |.str z _=>eqV (.str z) x
 |_=>false
theorem eqU_of{x y:V}{u:Value}(r:RelV y u)(f:flatV y=true):eqU x u=eqV y x:=by
 cases y with
 |non=>cases r;rfl
 |bl b=>cases r;rfl
 |int i=>obtain⟨t,rfl⟩:=r;rfl
 |str z=>obtain⟨t,rfl⟩:=r;rfl
 |_=>exact absurd (show false=true from f) aF
theorem any_eqU{x:V}:∀{xs:List V}{us:List Value},Vals xs us->xs.all flatV=true->us.any (eqU x)=xs.any λy=>eqV y x
 |_,_,.nil,_=>rfl
 | y::xs,u::us,.cons r t,f=>by rw[List.all_cons,aL]at f;rw[bO,bO,eqU_of r f.1,any_eqU t f.2]
theorem mem_eqAt{A:Around}{s:Shared}{x:V}{v:Value}(rx:RelV x v)(fx:flatV x=true):∀{xs:List V}{us:List Value},Vals xs us->xs.all flatV=true->∀u∈us,SeqAt.EqAt A s u v (eqU x u)
 |_,_,.nil,_=>λu hu=>by cases hu
 | y::xs,u::us,.cons r t,f=>λu' hu=>by
  rw[List.all_cons,aL]at f;rcases aD.mp hu with rfl|hu
  . rw[eqU_of r f.1];exact eqAt_V r rx f.1 fx
  . exact mem_eqAt rx fx t f.2 u' hu
noncomputable def inV(x:V)(xs:List V):Bool:=xs.any λy=>eqV y x
def rIn(K:PySem.W.Frag)(neg:Bool):R2:=λx y H Q=>∃p xs,y=.ref p/\(SqL K H p xs∨SqT K H p xs)/\flatV x=true/\xs.all flatV=true/\Q (.bl (if neg then !inV x xs else inV x xs)) H
theorem op_in_seq:OpR X (compareOp .In) (rIn X.K false):=by
 intro ae s σ H x y v u Q I rx ry h;obtain⟨p,xs,rfl,hq,fx,fs,q⟩:=h;cases ry;rcases hq with hq|hq
 . obtain⟨its,r,pl,hz⟩:=I.list hq;refine SeqAt.in_listAt (eqU x) pl.isList (λw hw=>mem_eqAt rx fx r fs w (by simpa using hw)) ⟨.bl _,H,I,rfl,?_⟩;rw[show its.toArray.any (eqU x)=its.any (eqU x) by simp,any_eqU r fs];exact q
 . obtain⟨its,r,pl,hz⟩:=I.tuple hq;refine SeqAt.in_tupleAt (eqU x) pl (λw hw=>mem_eqAt rx fx r fs w (by simpa using hw)) ⟨.bl _,H,I,rfl,?_⟩;rw[show its.toArray.any (eqU x)=its.any (eqU x) by simp,any_eqU r fs];exact q
theorem call_len_seq:CallR X (.builtin "len") (λxs H Q=>∃ p ys,xs=[.ref p]/\(SqL X.K H p ys∨SqT X.K H p ys)/\Q (.int ys.length) H):=by
 intro ae s σ H xs us Q I r h;obtain⟨p,ys,rfl,hq,q⟩:=h;obtain⟨u,rfl,rx⟩:=vals1 r;cases rx;have hn:=line63;rcases hq with hq|hq
 . obtain⟨its,r',pl,hz⟩:=I.list hq;have af:=r'.length;exact Calls.call_len_list pl.isList (by simp only[aw]<;>omega) ⟨.int ys.length,H,I.tok _,⟨s.toks+1,by rw[aw,af]⟩,q⟩
 . obtain⟨its,r',pl,hz⟩:=I.tuple hq;have af:=r'.length;exact len_tuple pl (by simp only[aw]<;>omega) ⟨.int ys.length,H,I.tok _,⟨s.toks+1,by rw[aw,af]⟩,q⟩
theorem call_len_str:CallR X (.builtin "len") (λxs H Q=>∃ z,xs=[.str z]/\z.length<=sizeLine/\Q (.int z.length) H):=by intro ae s σ H xs us Q I r h;obtain⟨z,rfl,hz,q⟩:=h;obtain⟨u,rfl,t,rfl⟩:=vals1 r;have hn:=line63;exact len_str zZ ⟨.int z.length,H,I.tok _,⟨_,rfl⟩,q⟩
theorem CallR.or{f:Value}{r r':List V->Hp->VK->Prop}(h:CallR X f r)(h':CallR X f r'):CallR X f (λxs H Q=>r xs H Q∨r' xs H Q):=by
 intro ae s σ H xs us Q I rs q;rcases q with q|q
 . exact h ae s σ H xs us Q I rs q
 . exact h' ae s σ H xs us Q I rs q
theorem call_list_of:CallR X (.type "list") (λxs H Q=>∃ p ys,xs=[.ref p]/\(SqL X.K H p ys∨SqT X.K H p ys)/\∀ l,H l=none->Q (.ref l) (upd H l (.lst ys))):=by
 intro ae s σ H xs us Q I r h;obtain⟨p,ys,rfl,hq,q⟩:=h;obtain⟨u,rfl,rx⟩:=vals1 r;cases rx
 have fin:∀(its:List Value),Vals ys its->ys.length<=sizeLine->∀(h':Heap)(c':Nat),(∀b o',s.heap.get? b=some o'->h'.get? b=some o') ->
   h'.get? s.heap.objs.size=some {cls:=.type "list",dict:=none,data:=.seq its.toArray c',slots:=#[] }->EP X ae σ Q (.ref s.heap.objs.size) {s with heap:=h' }:=λits r' hz h' c' kp e =>
  ⟨.ref s.heap.objs.size,_,I.laid (t':=s.toks) kp (ay _) (show ObjOk X.prog X.w _ h' _ (.lst ys)from⟨hz,its,c',r',e⟩),rfl,q _ (I.hok.fresh (ay _))⟩
 rcases hq with hq|hq
 . obtain⟨its,r',pl,hz⟩:=I.list hq;have af:=r'.length;obtain⟨o,ho,hc,n,hd⟩:=pl.isList;exact call_list_seq p (.inl rfl) ho hc hd (λh' c' kp e=>fin its r' hz h' c' kp e) (by simp only[aw]<;>omega)
 . obtain⟨its,r',pl,hz⟩:=I.tuple hq;have af:=r'.length;obtain⟨o,ho,hc,n,hd⟩:=pl;exact call_list_seq p (.inr rfl) ho hc hd (λh' c' kp e=>fin its r' hz h' c' kp e) (by simp only[aw]<;>omega)
theorem call_tuple_of:CallR X (.type "tuple") (λxs H Q=>∃ p ys,xs=[.ref p]/\((SqL X.K H p ys/\∀ l,H l=none->Q (.ref l) (upd H l (.tup ys)))∨(SqT X.K H p ys/\Q (.ref p) H))):=by
 intro ae s σ H xs us Q I r h;obtain⟨p,ys,rfl,h⟩:=h;obtain⟨u,rfl,rx⟩:=vals1 r;cases rx;rcases h with⟨hq,q⟩|⟨hq,q⟩
 .
  obtain⟨its,r',pl,hz⟩:=I.list hq;have af:=r'.length;refine call_tuple_list pl.isList (λh' kp=>?_) (by simp only[aw]<;>omega);have I1:Inv X ae σ H {s with heap:=h' }:=I.kept (t':=s.toks) kp
  have I2:Inv X ae σ (upd H h'.objs.size (.tup ys)) {s with heap:=h'.push {cls:=.type "tuple",data:=.seq its.toArray} } :=
   I1.laid (t':=s.toks) (λb o e=>aq _ e) (ay _) (show ObjOk X.prog X.w _ _ _ (.tup ys)from⟨hz,its,r',IsTup.new _ _⟩)
  exact⟨.ref h'.objs.size,_,I2,rfl,q _ (I1.hok.fresh (ay _))⟩
 . obtain⟨its,r',pl,hz⟩:=I.tuple hq;exact call_tuple_same pl ⟨.ref p,H,I,rfl,q⟩
def tyV(K:PySem.W.Frag)(T:String)(x:V)(H:Hp):Prop:=match x with
 |.str _=>T="str"
 |.int _=>T="int"
 | .ref p=>(T="list"/\∃ xs,SqL K H p xs)∨(T="tuple"/\∃ o,K.lookup p=some o/\o.cls=.type "tuple"/\o.dict=none) ∨
   (T="dict"/\((∃ kvs,H p=some (.dK kvs))∨∃ kvs,H p=some (.dT kvs)))∨(T="set"/\∃ S n,H p=some (.set S n))
 |_=>False
theorem tyV_is{ae:List (Addr×Obj)}{σ:St}{H:Hp}{s:Shared}{T:String}{x:V}{v:Value}(I:Inv X ae σ H s)(r:RelV x v)(ty:tyV X.K T x H) :
  s.TypeIs v T/\∀a,v=.ref a->∃ob,s.heap.get? a=some ob/\ob.dict=none:=by
 cases x with
 | str z =>
  obtain⟨t,rfl⟩:=r;cases(show T="str" from ty);exact⟨typeIs_str s z t,λ_ e=>nomatch e⟩
 | int i =>
  obtain⟨t,rfl⟩:=r;cases(show T="int" from ty);exact⟨typeIs_int s i t,λ_ e=>nomatch e⟩
 | ref p =>
  cases r;rcases ty with⟨rfl,xs,hq⟩|⟨rfl,o,hk,hc,hd⟩|⟨rfl,hk⟩|⟨rfl,S,n,hk⟩
  . obtain⟨its,_,pl,_⟩:=I.list hq;refine⟨pl.isList.typeIs,λa e=>?_⟩;cases e;obtain⟨o,n,e,c,hd,_⟩:=pl;exact⟨o,e,hd⟩
  . refine⟨⟨o,I.kIn p o hk,hc⟩,λa e=>?_⟩;cases e;exact⟨o,I.kIn _ o hk,hd⟩
  .
   have z:∃o,s.heap.get? p=some o/\o.ExactDict:=by
    rcases hk with⟨kvs,hk⟩|⟨kvs,hk⟩
    . obtain⟨_,_,_,_,o,_,_,e,ex,_⟩:=I.hok p _ hk;exact⟨o,e,ex⟩
    . obtain⟨_,_,_,_,o,_,_,e,ex,_⟩:=I.hok p _ hk;exact⟨o,e,ex⟩
   obtain⟨o,e,ex⟩:=z;refine⟨⟨o,e,ex.1⟩,λa e2=>?_⟩;cases e2;exact⟨o,e,ex.2.1⟩
  . obtain⟨o,_,_,_,e,ex,_⟩:=I.hok p _ hk;refine⟨⟨o,e,ex.1⟩,λa e2=>?_⟩;cases e2;exact⟨o,e,ex.2.1⟩
 |_=>exact False.elim ty
def tBM0(K:PySem.W.Frag)(T:String)(r:V->List V->Hp->VK->Prop)(to:TE):TE:=λσ H Q=>to σ H λx H1=>tyV K T x H1/\r x [] H1 Q
def tBM(K:PySem.W.Frag)(T:String)(r:V->List V->Hp->VK->Prop)(to:TE)(t:TA):TE:=λσ H Q=>to σ H λx H1=>tyV K T x H1/\t σ H1 λxs H2=>r x xs H2 Q
variable{o e:Expr}{es:List Expr}{to:TE}{t:TA}{name:Str}{apos cpos:Pos}{T id:String}{r:V->List V->Hp->VK->Prop}
theorem pe_bm0(pa:PlainAttrs T)(slot:Slot T name id) (hty:typeOf (.builtin id)=pure (.type "method_descriptor")) (hm:MtR X id r) (ho:PE X o to)
  (hbase:attributeBase o name X.env (eval o X.env)=eval o X.env:=by rfl) (hline:(apos.endLine == cpos.line)=true:=by rfl):PE X (.Call (.Attribute o name apos) [] [] cpos) (tBM0 X.K T r to):=by
 intro ae s σ H Q I h;refine wpAny_Call_method0_late hbase hline (thn (ho ae s σ H _ I h) λv s1 ⟨x,H1,I1,r1,ty,q1⟩=>?_);obtain⟨h1,h2⟩:=tyV_is I1 r1 ty;exact⟨T,id,pa,slot,hty,h1,h2,Calls.callWith_builtin rfl (PySem.evalArgs_none (hm ae s1 σ H1 x [] v [] Q I1 r1 .nil q1))⟩
theorem pe_bm(pa:PlainAttrs T)(slot:Slot T name id) (hty:typeOf (.builtin id)=pure (.type "method_descriptor")) (hm:MtR X id r) (ho:PE X o to) (ha:PA X (e::es) t)
  (hbase:attributeBase o name X.env (eval o X.env)=eval o X.env:=by rfl)
  (hfew:((backTo cpos (starEach (e::es) X.env)).all (λx=>!x.1) && (backToKw cpos (keywordEach [] X.env)).all (λx=>x.1.isSome)
   && decide ((e::es).length+([]:List Keyword).length+(if([]:List Keyword).isEmpty then 0 else 1)<30))=true:=by rfl)
  (hline:(apos.endLine == cpos.line)=true:=by rfl) (hs:starEach (e::es) X.env=(false,eval e X.env)::starEach es X.env:=by rfl) (hplain:(backTo cpos (starEach es X.env)).any (·.1)=false:=by rfl) :
  PE X (.Call (.Attribute o name apos) (e::es) [] cpos) (tBM X.K T r to t):=by
 intro ae s σ H Q I h;refine wpAny_Call_method_late hbase hfew hline rfl (thn (ho ae s σ H _ I h) λv s1 ⟨x,H1,I1,r1,ty,q1⟩=>?_);obtain⟨h1,h2⟩:=tyV_is I1 r1 ty;refine⟨T,id,pa,slot,hty,h1,h2,?_⟩;have hA:=ha cpos ae s1 σ H1 _ I1 q1;rw[hs]at hA ⊢;refine Calls.callWith_builtin (by show(false ||(backTo cpos (starEach es X.env)).any (·.1))=false;rw[hplain]<;>rfl) (Calls.evalArgs_plain ?_);exact thn hA λus s2 ⟨vs,H2,I2,r2,q2⟩=>hm ae s2 σ H2 x vs v us Q I2 r1 r2 q2
/- xs.append(e),list.index on a module's tuple .. are MtR facts of 06m -/
end
def MtM(X:Cx)(id:String)(r:V->List V->Hp->VK->Prop):Prop :=
 ∀(ae:List (Addr×Obj))(s:Shared)(σ:St)(H:Hp)(x:V)(xs:List V)(v:Value)(us:List Value)(Q:VK),Inv X ae σ H s->RelV x v->Vals xs us->r x xs H Q ->
  wpAny (model X.prog X.w) X.A (call (.builtin id) (v::us)) (EP X ae σ Q) X.xe s
theorem Vals.one:∀{x:V}{us:List Value},Vals [x] us->∃u,us=[u]/\RelV x u
 |_,_,.cons r .nil=>⟨_,rfl,r⟩
theorem Vals.zero:∀{us:List Value},Vals [] us->us=[]
 |_,.nil=>rfl
section
variable{X:Cx}{ae:List (Addr×Obj)}{σ:St}{H:Hp}{s:Shared}{l:Addr}{xs ys:List V}
theorem Inv.lset{its its':List Value}{n:Nat}{f:Array Value->Array Value}{t':Nat}(I:Inv X ae σ H s)(hH:H l=some (.lst xs))
  (e:s.heap.get? l=some {cls:=.type "list",data:=.seq its.toArray n}) (hf:f its.toArray=its'.toArray) (hv:Vals ys its') (hz:ys.length<=sizeLine) :
  Inv X ae σ (upd H l (.lst ys)) {s with heap:=s.heap.update l (Obj.mapSeq f),toks:=t' }:=by
 have q:=PySem.IsL.update e f;rw[hf]at q;refine I.write (x:=l) (e:=l) (by rw[hH];exact trivial) (.inl rfl) (λb' u hb hu=>(aN s.heap (Obj.mapSeq f) (bN hb)).trans hu) ⟨_,q⟩ ?_;exact⟨hz,its',_,hv,q⟩
theorem Inv.lnew{its:List Value}{t':Nat}(I:Inv X ae σ H s)(hv:Vals ys its)(hz:ys.length<=sizeLine) :
  Inv X ae σ (upd H s.heap.objs.size (.lst ys)) {s with heap:=s.heap.push {cls:=.type "list",data:=.seq its.toArray},toks:=t' } :=
 I.laid (λ_ _ q=>aq _ q) (ay _) ⟨hz,its,0,hv,aU _ rfl⟩
theorem Inv.fresh(I:Inv X ae σ H s):H s.heap.objs.size=none:=I.hok.fresh (ay _)
theorem Inv.lstM(I:Inv X ae σ H s)(hH:H l=some (.lst xs)):xs.length<=sizeLine/\∃(its:List Value)(n:Nat),Vals xs its/\xs.length=its.length/\s.heap.get? l=some {cls:=.type "list",data:=.seq its.toArray n}:=by obtain⟨z,its,n,r,e⟩:=I.hok l _ hH;exact⟨z,its,n,r,r.length,e⟩
end
section
variable{X:Cx}
def rAppend:V->List V->Hp->VK->Prop:=λx vs H Q=>∃l xs y,x=.ref l/\vs=[y]/\H l=some (.lst xs)/\xs.length<sizeLine/\Q .non (upd H l (.lst (xs++[y])))
theorem mt_append:MtM X "list.append" rAppend:=by intro ae s σ H x vs v us Q I rx rv h;obtain⟨l,xs,y,rfl,rfl,hH,hz,q⟩:=h;cases rx;obtain⟨u,rfl,ru⟩:=rv.one;obtain⟨z,its,n,r,hl,e⟩:=I.lstM hH;refine call_meets F.slot_list_append ⟨_,e,rfl⟩ F.entry_list_append (F.args_list_append_2 _ _) (PySem.list_append l its.toArray n u (by rw[aw];omega)) ⟨e,?_⟩;refine⟨.non,_,I.lset (its':=its++[u]) hH e zY (r.append (.cons ru .nil)) ?_,rfl,q⟩;rw[bA,List.length_singleton];omega
def rPop:V->List V->Hp->VK->Prop:=λx vs H Q=>∃l xs y,x=.ref l/\vs=[]/\H l=some (.lst xs)/\xs[xs.length-1]?=some y/\Q y (upd H l (.lst xs.dropLast))
def rClear:V->List V->Hp->VK->Prop:=λx vs H Q=>∃l xs,x=.ref l/\vs=[]/\H l=some (.lst xs)/\Q .non (upd H l (.lst []))
theorem mt_clear:MtM X "list.clear" rClear:=by intro ae s σ H x vs v us Q I rx rv h;obtain⟨l,xs,rfl,rfl,hH,q⟩:=h;cases rx;have hus:=rv.zero;subst hus;obtain⟨z,its,n,r,hl,e⟩:=I.lstM hH;refine call_meets F.slot_list_clear ⟨_,e,rfl⟩ F.entry_list_clear (F.args_list_clear_1 _) (AutoSeq1.list_clear_list_0 l its.toArray n (by rw[aw];omega)) ⟨e,?_⟩;exact⟨.non,_,I.lset (its':=[]) (ys:=[]) hH e rfl .nil (bP _),rfl,q⟩
end
end L2
namespace Att
open PySem PySem.W PySem.Calls PyProof.Rows
theorem ints_of_wellAll{P:Params}{h:Heap}:∀(ns:List Int)(vs:List Value),WellAll P h vs (ns.map WData.int)->IntsAre vs ns:=by
 intro ns
 induction ns with
 | nil =>
  intro vs w;rw[List.map_nil]at w;cases w;exact .nil
 | cons n ns ih =>
  intro vs w;rw[a8]at w
  cases w with
  | cons a b =>
   cases a;exact .cons _ _ (ih _ b)
theorem script_of{l:OpenLaw}{n:Nat}(hn:l.most=some n){P:Params}{h:Heap}{args:List WData}{vals:List Value}
  (hpre:l.row.toRowW.claim.pre args=true) (hwl:WellAll P h vals args) :
  ∃ a vs ns,vals=[Value.ref a]/\args=[WData.list (ns.map WData.int)]/\h.get? a=some {cls:=.type "list",data:=.seq vs.toArray}/\IntsAre vs ns/\ns.length<=n:=by
 have hsh:WShape.hasAll [] args [.list .int]=true:=(pre_splitW hpre).1;have hc:l.pre.holds [] {args:=args}=true:=(pre_splitW hpre).2;obtain⟨d,r,rfl,h1,h2⟩:=hasAllW_cons hsh;obtain rfl:=hasAllW_nil h2;obtain⟨xs,rfl,h3⟩:=hasW_list h1;obtain⟨ns,rfl⟩:=items_int h3
 have af:ns.length<=n:=by
  unfold OpenLaw.pre at hc;have h4:(WTm.not (.lt (.lit (.int (n:Int))) (.len (.arg 0)))).holds [] {args:=[.list (ns.map .int)] }=true:=by have h4:=(holds_andW hc).1;rw[hn]at h4;exact h4
  have h5:=condW_of h4 (w_not (w_lt w_lit (w_len_list (w_arg rfl))));rw[aC]at h5;refine Nat.le_of_not_lt λq=>?_;have q':(n:Int)<((ns.length:Nat):Int):=by omega
  first
   |(rw[bD q']at h5;exact absurd h5 ze)
   |(simp at h5;omega)
 cases hwl with
 | cons w1 w2 =>
  cases w2
  cases w1 with
  |list ho hall=>exact⟨_,_,ns,rfl,rfl,ho,ints_of_wellAll ns _ hall,af⟩
theorem post_true(l:OpenLaw)(args:List WData):l.row.toRowW.claim.post args (.bool true) args=true :=
 postW_of (r:=l.row.toRowW) (X:=(true == true))
  (show WShape.has [] (.bool true) .bool=true by first|rfl|decide|simp[WShape.has,WShape.arms,WShape.armsAll])
  (show(WTm.eq .res (.lit (.bool true))).value [] {args:=args,res:=some (.bool true),after:=args}=some (.bool (true == true))from w_eq_bool (w_res rfl) w_lit) rfl
theorem attach_call{l:OpenLaw}{n:Nat}{q:Program}{loose:List Str}{XP:(Str->Option Value)->Heap->Prop}{YP:World->Heap->Prop}{d:DefRec}
  (hn:l.most=some n) (hdf:d.params.defaults=[])
  (call:∀(w:World)(s₀ s₁:Shared)(mg mb:Str->Option Value)(fa:Addr)(o:Obj)(pm cd doc:Value)(a:Addr)(vs:List Value)(ns:List Int),
   Ground q loose [] XP w s₀ mg mb s₁.heap->YP w s₁.heap ->
   s₁.heap.get? fa=some o->o.data=.func (docDef d.name d.params d.body d.scope pm cd doc)->s₁.heap.CodeRec cd d.name->mg d.name=some (.ref fa) ->
   s₁.heap.get? a=some {cls:=.type "list",data:=.seq vs.toArray}->IntsAre vs ns->ns.length<=n->s₁.gens=#[] ->
   codeAny (model l.prog w) callerA (.call (.ref fa) ⟨[.ref a],[]⟩) (λr s'=>r=.ok (.ret (.bool true))/\OldK s₁.heap s'.heap/\s'.os=s₁.os/\AllBare s'.gens) s₁) :
  WalkO q loose XP YP l.row.toRowW d [] (λf vs=>PySem.call f vs):=by
 intro w s₀ s₁ mg mb G Y fa o pm cd doc dV kV ho hd hcd hD hmg hg args vals as hpre hlay hrd hwl hlo;obtain rfl:dV=.none:=Dflts.none hD hdf;obtain rfl:kV=.none:=Dflts.noKw hD;obtain⟨a,vs,ns,rfl,rfl,hobj,hints,af⟩:=script_of hn hpre hwl;refine enter_call (codeAny_mono (call w s₀ s₁ mg mb fa o pm cd doc a vs ns G Y ho (fd_plain hd) hcd hmg hobj hints af hg) λr s' hq=>?_);obtain⟨rfl,h2,h3,h4⟩:=hq;exact⟨.inl ⟨.bool true,.bool true,[],rfl,λ_=>rfl,.bool true,post_true l _,λ_=>⟨List.Pairwise.nil,λ_ hm=>(nomatch hm)⟩⟩,h2,h3,h4⟩
section
noncomputable def ledger(h:Heap)(L d:Addr):List (Addr×Obj):=(List.range h.objs.size).filterMap λa=>if a=L∨a=d then none else(h.get? a).map λo=>(a,o)
end
end Att
namespace L2
open PySem PySem.Spec PyProof.Rows
theorem vals_ints:∀{vs:List Value}{ns:List Int},IntsAre vs ns->Vals (ns.map V.int) vs
 |_,_,.nil=>.nil
 |_,_,.cons n t h=>.cons ⟨t,rfl⟩ (vals_ints h)
def Only(H:Hp):Prop:=∀b,H b=none∨(∃o xs,H b=some (.frz o (.lst xs)))∨∃q,H b=some (.tbl q)
noncomputable def tabsK(K:PySem.W.Frag):List (Addr×Str):=lamNames.filterMap λx=>(PySem.W.tabIn K x).map λp=>(p.2,lamQ x)
noncomputable def tabsOk(K:PySem.W.Frag):Bool:=decide ((tabsK K).map (·.1)).Nodup && (tabsK K).all λp=>(K.lookup p.1).isNone
theorem mem_tabsK{K:PySem.W.Frag}{P:Addr}{q:Str}(h:(P,q)∈tabsK K):∃x∈lamNames,∃c,PySem.W.tabIn K x=some (c,P)/\q=lamQ x:=by
 obtain⟨x,hx,e⟩:=List.mem_filterMap.mp h
 cases z:PySem.W.tabIn K x with
 |none=>rw[z]at e;cases e
 |some p=>rw[z]at e;cases e;exact⟨x,hx,p.1,z,rfl⟩
theorem mem_of_lookup'{α β:Type}[BEq α][LawfulBEq α]:∀{l:List (α×β)}{a:α}{b:β},l.lookup a=some b->(a,b)∈l
 |[],_,_,h=>nomatch h
 | (x,y)::r,a,b,h=>by
  rw[aO]at h
  cases hb:a == x with
  |true=>rw[hb]at h;cases h;rw[eq_of_beq hb];exact .head _
  |false=>rw[hb]at h;exact .tail _ (mem_of_lookup' h)
theorem lookup_of_nodup{α β:Type}[BEq α][LawfulBEq α]:∀{l:List (α×β)}{a:α}{b:β},(l.map (·.1)).Nodup->(a,b)∈l->l.lookup a=some b
 |[],_,_,_,h=>nomatch h
 | (x,y)::r,a,b,nd,h=>by
  rw[a8,aP]at nd;rw[aO];rcases aD.mp h with e|h
  . cases e;simp
  . have:a≠x:=λz=>nd.1 (z ▸ List.mem_map_of_mem (f:=(·.1)) h);rw[show(a == x)=false from beq_false_of_ne this];exact lookup_of_nodup nd.2 h
theorem tabIn_some{K:PySem.W.Frag}{x:Str}{c P:Addr}(h:PySem.W.tabIn K x=some (c,P)):K.lookup c≠none:=by
 unfold PySem.W.tabIn at h;split at h
 .
  split at h
  .
   split at h
   .
    split at h
    .
     rename_i hco;split at h
     . cases h;intro z;rw[hco]at z;cases z
     . cases h
    . cases h
   . cases h
  . cases h
 . cases h
theorem law_call{P:Program}{w:World}{K:PySem.W.Frag}{mg mb:Str->Option Value}{CX:CXT}{k:Nat}{fa a:Addr}{fd:FuncData}{x:Str}{sp:Sp}{s₁:Shared}{vs:List Value}{ns:List Int}
  (KX:K.In s₁.heap) (hns:s₁.heap.Ns mainGlobals mg) (hb:s₁.heap.Ns builtinsNs mb) (hbb:∀ x:Str,x≠"__name__"->mb x=bootBuiltins x) (hlim:s₁.heap.NoLimit) (hsys:∃ mm,s₁.heap.Ns sysModules mm) (hbm:BMain mg s₁.heap) (hto:tabsOk K=true)
  (htb:∀x∈lamNames,∀c P,PySem.W.tabIn K x=some (c,P)->PySem.W.CodeHd s₁.heap c P/\s₁.heap.get? P=some (PySem.W.tabObj #[])) (hg:s₁.gens=#[])
  (ha:s₁.heap.get? a=some {cls:=.type "list",data:=.seq vs.toArray}) (hi:IntsAre vs ns) (hl:ns.length<=sizeLine) (hr:Room k callerA)
  (F:∀base:Heap,K.In base->base.Ns mainGlobals mg->FnOk P w K mg base CX k fa fd [x] sp) (hbind:∀(s:Shared)(u:Value),BindsTo s fd ⟨[u],[]⟩ [(x,u)])
  (hsp:∀H:Hp,Only H->SqL K H a (ns.map V.int)->sp [.ref a] H (λv _=>v=.bl true) λ_ _ _=>False)
  (hCX:∀H e s',CX [] H s₁ (λ_ _ _=>False) e s'->False) :
  codeAny (model P w) callerA (.call (.ref fa) ⟨[.ref a],[]⟩) (λr s'=>r=.ok (.ret (.bool true))/\OldK s₁.heap s'.heap/\s'.os=s₁.os/\AllBare s'.gens) s₁:=by
 have rv:=vals_ints hi;have lenV:=hi.length;obtain⟨nd,kn⟩:=bH.mp hto;have nd:=bV nd;have tabAt:∀{b:Addr}{q:Str},(tabsK K).lookup b=some q->PySem.isCodeTable s₁.heap b/\s₁.heap.get? b=some (PySem.W.tabObj #[])/\K.lookup b=none:=λ{b q} e=>by have hm:(b,q)∈tabsK K:=mem_of_lookup' e;obtain⟨x,hx,c,e1,_⟩:=mem_tabsK hm;obtain⟨h1,h2⟩:=htb x hx c b e1;refine⟨(h1.tab h2).isCodeTable,h2,?_⟩;have:=aY.mp kn (b,q) hm;simpa using this
 have core:∀H:Hp,Only H->SqL K H a (ns.map V.int)->HOk P w H s₁.heap->(∀b,H b≠none->b=a∨∃q,H b=some (.tbl q)/\(tabsK K).lookup b=some q)->(∀b,H b≠none->K.lookup b=none)->Tbs K H ->
   codeAny (model P w) callerA (.call (.ref fa) ⟨[.ref a],[]⟩) (λr s'=>r=.ok (.ret (.bool true))/\OldK s₁.heap s'.heap/\s'.os=s₁.os/\AllBare s'.gens) s₁:=by
  intro H hO hS hok hA hK hT;have base_of:∀{b:Addr}{o:Obj},s₁.heap.get? b=some o->H b=none->(hidT s₁.heap H).get? b=some o:=λe n=>hidT_get e n
  have noB:∀{b:Addr}{o:Obj},s₁.heap.get? b=some o->(∀us n,o.data≠.seq us n)->(∀us,o.data≠.fields us)->H b=none:=λ{b o} e d1 d2=>by
   cases q:H b with
   |none=>rfl
   | some u =>
    rcases hA b (by rw[q];simp)with e' | ⟨z,_,e'⟩
    . subst e';rw[ha]at e;cases e;exact absurd rfl (d1 _ _)
    . rw[(tabAt e').2.1]at e;cases e;exact absurd rfl (d2 _)
  have noA:∀{b:Addr}{o:Obj}{es:Array DictEntry}{ep:Nat},s₁.heap.get? b=some o->o.data=.dict es ep->H b=none:=λ{b o es ep} e d =>
   noB e (λus n z=>by rw[d]at z;cases z) λus z=>by rw[d]at z;cases z
  have nsK:∀{b:Addr}{m:Str->Option Value},s₁.heap.Ns b m->(hidT s₁.heap H).Ns b m:=λ{b m} ⟨o,es,ep,e,d,r⟩=>⟨o,es,ep,base_of e (noA e d),d,r⟩
  have hKb:K.In (hidT s₁.heap H):=λb o e=>base_of (KX b o e) (by
   cases q:H b with
   |none=>rfl
   |some u=>rw[hK b (by rw[q];simp)]at e;cases e)
  have hM:Mod K mg (hidT s₁.heap H):=⟨hKb,nsK hns,⟨mb,nsK hb,hbb⟩,let ⟨mc,h1,h2⟩:=hlim;⟨mc,nsK h1,h2⟩,let ⟨mm,h1⟩:=hsys;⟨mm,nsK h1⟩,by
   obtain⟨bm,ob,b1,b2,b3,b4,b5,b6⟩:=hbm
   exact⟨bm,ob,b1,b2,base_of b3 (noB b3 (λus n z=>by rw[b6]at z;cases z) λus z=>by rw[b6]at z;cases z),b4,b5,b6⟩,λx hx c P e=>by
   obtain⟨⟨o,vs,file,tf,flags,tg,inF,text,tt,e1,r⟩,_⟩:=htb x hx c P e
   exact⟨o,vs,file,tf,flags,tg,inF,text,tt,base_of e1 (by
    cases q:H c with
    |none=>rfl
    |some u=>exact absurd (hK c (by rw[q];simp)) (tabIn_some e)),r⟩⟩
  have e0:Env0 P w K mg (hidT s₁.heap H) callerA [] s₁ H:=⟨rfl,hM,λb o e=>of_hidT e,Nat.le_of_eq (hidT_size _ _),trivial,λb hb=>absurd (show b∈([]:List Addr)from hb) zY,hok,.of_eq hg,hT⟩;refine codeAny_mono ((F _ hKb (nsK hns)).run callerA [] s₁ H ⟨[.ref a],[]⟩ [.ref a] [.ref a] _ _ hr e0 (hbind s₁ (.ref a)) (.cons rfl .nil) (hsp H hO hS)) λr s' h=>?_
  cases r with
  |error e=>exact(hCX H e s' h).elim
  | ok fl =>
   cases fl with
   |next=>exact False.elim h
   |brk=>exact False.elim h
   |cont=>exact False.elim h
   | ret u =>
    obtain⟨v,H',os,bare,un,hok',r',q⟩:=h;have q':v=.bl true:=q;subst q';obtain rfl:u=Value.bool true:=r'
    have fin:∀b o,s₁.heap.get? b=some o->s'.heap.get? b=some o∨(PySem.isCodeTable s₁.heap b/\o=PySem.W.tabObj #[]/\∃ps,s'.heap.get? b=some (PySem.W.tabObj ps)):=λb o e=>by
     cases q:H b with
     |none=>exact .inl (un.keep b o e q (by intro z;exact absurd (show b∈([]:List Addr)from z) zY) zY)
     | some u =>
      rcases hO b with z|⟨ob,xs,z⟩|⟨t,z⟩
      . rw[q]at z;cases z
      . have z2:=un.frzs b ob _ z;obtain⟨e1,_⟩:=hok b _ z;obtain⟨e2,_⟩:=hok' b _ z2;rw[e]at e1;cases e1;exact .inl e2
      .
       rcases hA b (by rw[q];simp)with e' | ⟨t2,_,e'⟩
       . subst e';obtain⟨ps,e1,_⟩:=hok b _ z;rw[ha]at e1;cases e1
       . obtain⟨ps,e2,_⟩:=hok' b _ (un.tbls b _ z);obtain⟨t1,t2,_⟩:=tabAt e';rw[e]at t2;cases t2;exact .inr ⟨t1,rfl,ps,e2⟩
    refine⟨rfl,⟨λb o e=>?_,λb o e=>?_⟩,os,bare⟩
    .
     rcases fin b o e with z|⟨t,rfl,ps,z⟩
     . exact .inl z
     . exact .inr (.inl ⟨t,rfl,#[],ps,rfl,by rw[Array.empty_append];exact z⟩)
    .
     rcases fin b o e with z|⟨t,_,ps,z⟩
     . exact⟨o,z⟩
     . exact⟨_,z⟩
 have tbsOf:∀{H:Hp},(∀b q,(tabsK K).lookup b=some q->H b=some (.tbl q))->Tbs K H:=λ{H} h x hx c P e=>h P _ (lookup_of_nodup nd (List.mem_filterMap.mpr ⟨x,hx,by rw[e];rfl⟩));have okT:∀{H:Hp}{b:Addr}{q:Str},(tabsK K).lookup b=some q->ObjOk P w H s₁.heap b (.tbl q):=λ{H b q} e=>⟨#[],(tabAt e).2.1,trivial,λpos cv z=>by simp[codeAmong]at z⟩;have na:∀q,(tabsK K).lookup a≠some q:=λq z=>by have:=(tabAt z).2.1;rw[ha]at this;cases this
 cases hk:K.lookup a with
 | some o =>
  have e:=KX a o hk;rw[ha]at e;cases e;refine core (λb=>((tabsK K).lookup b).map .tbl) (λb=>?_) (.inr ⟨_,vs.toArray,_,hk,rfl,rfl,rfl,by rw[aw,lenV];exact hl,by simpa using rv⟩) (λb u z=>?_) (λb z=>?_) (λb z=>?_) (tbsOf λb q e=>by show Option.map _ _=_;rw[e];rfl)
  .
   show Option.map HO.tbl ((tabsK K).lookup b)=none∨_
   cases q:(tabsK K).lookup b with
   |none=>exact .inl rfl
   |some t=>exact .inr (.inr ⟨t,by show Option.map _ _=_;rw[q];rfl⟩)
  .
   have z':Option.map HO.tbl ((tabsK K).lookup b)=some u:=z
   cases q:(tabsK K).lookup b with
   |none=>rw[q]at z';cases z'
   |some t=>rw[q]at z';cases z';exact okT q
  .
   have z':Option.map HO.tbl ((tabsK K).lookup b)≠none:=z
   cases q:(tabsK K).lookup b with
   |none=>rw[q]at z';exact absurd rfl z'
   |some t=>exact .inr ⟨t,rfl,rfl⟩
  .
   have z':Option.map HO.tbl ((tabsK K).lookup b)≠none:=z
   cases q:(tabsK K).lookup b with
   |none=>rw[q]at z';exact absurd rfl z'
   |some t=>exact(tabAt q).2.2
 | none =>
  have at_a:∀ b,(if b=a then some (HO.frz {cls:=.type "list",data:=.seq vs.toArray} (.lst (ns.map V.int)))else((tabsK K).lookup b).map .tbl)≠none->b=a∨∃ q,(tabsK K).lookup b=some q:=λb z=>by
   by_cases hb:b=a
   . exact .inl hb
   .
    rw[if_neg hb]at z
    cases q:(tabsK K).lookup b with
    |none=>rw[q]at z;exact absurd rfl z
    |some t=>exact .inr ⟨t,rfl⟩
  have tabA:∀ b q,(tabsK K).lookup b=some q->(if b=a then some (HO.frz {cls:=.type "list",data:=.seq vs.toArray} (.lst (ns.map V.int)))else((tabsK K).lookup b).map .tbl)=some (.tbl q):=λb q e=>by rw[if_neg (λ(z:b=a)=>na q (by rw[<- z];exact e)),e];rfl
  refine core (λb=>if b=a then some (.frz {cls:=.type "list",data:=.seq vs.toArray} (.lst (ns.map V.int)))else((tabsK K).lookup b).map .tbl) (λb=>?_) (.inl (.inr ⟨{cls:=.type "list",data:=.seq vs.toArray},if_pos rfl⟩)) (λb u z=>?_) (λb z=>?_) (λb z=>?_) (tbsOf λb q e=>tabA b q e)
  .
   by_cases hb:b=a
   . exact .inr (.inl ⟨_,_,if_pos hb⟩)
   .
    cases q:(tabsK K).lookup b with
    |none=>exact .inl (by show ite _ _ _=_;rw[if_neg hb,q];rfl)
    |some t=>exact .inr (.inr ⟨t,tabA b t q⟩)
  .
   by_cases hb:b=a
   . have z':=(if_pos hb).symm.trans z;cases z';subst hb;exact⟨ha,by rw[aC];exact hl,vs,_,rv,ha⟩
   .
    have z':=(if_neg hb).symm.trans z
    cases q:(tabsK K).lookup b with
    |none=>rw[q]at z';cases z'
    |some t=>rw[q]at z';cases z';exact okT q
  .
   rcases at_a b z with e|⟨q,e⟩
   . exact .inl e
   . exact .inr ⟨q,tabA b q e,e⟩
  .
   rcases at_a b z with e|⟨q,e⟩
   . rw[e];exact hk
   . exact(tabAt e).2.2
theorem walk_of{l:PySem.W.OpenLaw}{n k:Nat}{q:Program}{loose:List Str}{XP:(Str->Option Value)->Heap->Prop}{YP:World->Heap->Prop}{d:DefRec}{K:Params->PySem.W.Frag}{CX:World->CXT}{sp:World->Sp}{x:Str}
  (hn:l.most=some n) (hq:importsNone q=true) (hn2:n<=sizeLine) (hdf:d.params.defaults=[]) (hr:Room k callerA)
  (hY:∀(w:World)(h:Heap),YP w h->(K w.params).In h) (hto:∀w:World,tabsOk (K w.params)=true) (hrc:∀(w:World),∀x∈lamNames,PySem.W.tabIn (K w.params) x=none∨((recsOf q).find? λe=>e.name == x).isSome=true)
  (F:∀(w:World)(mg:Str->Option Value)(fa:Addr)(h:Heap),(K w.params).In h->h.Ns mainGlobals mg->mg d.name=some (.ref fa) ->
   ∃fd:FuncData,(∀(s:Shared)(u:Value),BindsTo s fd ⟨[u],[]⟩ [(x,u)]) /\
    ∀base:Heap,(K w.params).In base->base.Ns mainGlobals mg->FnOk l.prog w (K w.params) mg base (CX w) k fa fd [x] (sp w))
  (hsp:∀(w:World)(H:Hp)(a:Addr)(ns:List Int),ns.length<=n->Only H->SqL (K w.params) H a (ns.map V.int)->sp w [.ref a] H (λv _=>v=.bl true) λ_ _ _=>False)
  (hCX:∀(w:World)(H:Hp)(s:Shared)(e:Value)(s':Shared),CX w [] H s (λ_ _ _=>False) e s'->False) :
  PySem.W.WalkO q loose XP YP l.row.toRowW d [] (λf vs=>PySem.call f vs):=by
 refine Att.attach_call hn hdf λw s₀ s₁ mg mb fa o pm cd doc a vs ns G Y ho hd hcd hmg hobj hints af hg=>?_;have KX:=hY w _ Y;obtain⟨fd,hb,hF⟩:=F w mg fa _ KX G.T.g hmg
 exact law_call KX G.T.g G.T.b G.T.builtins G.T.nolimit (let ⟨mm,h1,_⟩:=(G.T.seer hq).mods;⟨mm,h1⟩) (let ⟨bm,ob,b1,b2,b3,b4,b5,b6⟩:=G.T.bmain;⟨bm,ob,b1,b2,b3,b4,b5,b6⟩) (hto w) (λy hy c P e=>by
  rcases hrc w y hy with z|z
  . rw[z]at e;cases e
  .
   obtain⟨d',hd'⟩:=Option.isSome_iff_exists.mp z
   exact PySem.W.tab_of G.T KX hd' e) hg hobj hints (aG af hn2) hr hF hb (λH hO hS=>hsp w H a ns af hO hS) λH e s'=>hCX w H s₁ e s'
noncomputable def defArgs(s:Stmt):Arguments:=match s with
 |.FunctionDef _ a _ _ _ _ _ _ _ _=>a
 |_=>{posonlyargs:=[],args:=[],vararg:=none,kwonlyargs:=[],kw_defaults:=[],kwarg:=none,defaults:=[] }
noncomputable def defBody(s:Stmt):List Stmt:=match s with
 |.FunctionDef _ _ b _ _ _ _ _ _ _=>b
 |_=>[]
noncomputable def defScope(s:Stmt):Scope:=match s with
 |.FunctionDef _ _ _ _ _ _ sc _ _ _=>sc
 |_=>{kind:=.function,names:=[],isGenerator:=false,isCoroutine:=false}
noncomputable abbrev CX0:CXT:=λ_ _ _ _ _ _=>False
noncomputable abbrev E0:XK:=λ_ _ _=>False
theorem pass0{X:Cx}:Passes CX0 X E0:=λ_ _ _ _ _ _ _ h=>h.elim
structure Fun (K:PySem.W.Frag) (x qual:Str) (st:Stmt) (f:Addr) (fd:FuncData):Prop where
 ex:∃(oc:Value)(od:Option Addr)(kV doc pm:Value)(an:Option Addr)(cdv ct:Value)(osl:Array (Option Value)),
  fd=PySem.W.fnOf x qual (defArgs st) (defBody st) (defScope st) .none kV doc pm an cdv ct/\K.lookup f=some ⟨oc,od,.func fd,osl⟩/\PySem.W.codeIn K cdv qual=true
 kp:PySem.W.keepIn K (.ref f)=true
section
variable{P:Program}{w:World}{K:PySem.W.Frag}{mg:Str->Option Value}{base:Heap}
theorem Fun.ok{x qual:Str}{st:Stmt}{f:Addr}{fd:FuncData}{N ps:List Str}{k:Nat}{sp:Sp}(F:Fun K x qual st f fd)(S:FnScope N ps (defScope st))(len:∀vs H Q E,sp vs H Q E->vs.length=ps.length)
  (hbody:∀(cdv:Value)(A:Around)(outer:List Env)(s:Shared)(H:Hp)(vs:List V)(Q:VK)(E:XK),Room k (A.deeper (envOfC qual (defScope st) s.heap.objs.size f cdv))->sp vs H Q E ->
   ∃t,PSs (cxOf CX0 P w K mg base N qual (defScope st) f cdv A outer s H E).nox (defBody st) t/\t {nx:=λ_ H'=>Q .non H',rt:=Q} (start N vs) H):FnOk P w K mg base CX0 (k+1) f fd ps sp:=by
 obtain⟨oc,od,kV,doc,pm,an,cdv,ct,osl,rfl,lk,hcd⟩:=F.ex;refine fn_of lk hcd S len λA outer s H vs Q E hr hsp=>?_;obtain⟨t,h,q⟩:=hbody cdv A outer s H vs Q E hr hsp;exact⟨t,h.nox,q⟩
theorem Fun.binds{x qual:Str}{st:Stmt}{f:Addr}{fd:FuncData}{ps:List Str}(F:Fun K x qual st f fd)
  (h:∀(kV doc pm:Value)(an:Option Addr)(cdv ct:Value)(us:List Value),us.length=ps.length->bindArgs (PySem.W.fnOf x qual (defArgs st) (defBody st) (defScope st) .none kV doc pm an cdv ct) ⟨us,[]⟩=pure (ps.zip us)):Binds K fd ps []:=by
 obtain⟨oc,od,kV,doc,pm,an,cdv,ct,osl,rfl,lk,hcd⟩:=F.ex;exact .all (h kV doc pm an cdv ct)
theorem fun_mk{x qual:Str}{st:Stmt}{f:Addr}{oc:Value}{od an:Option Addr}{osl:Array (Option Value)}{kV doc pm cdv ct:Value}(l:K.lookup f=some ⟨oc,od,.func (PySem.W.fnOf x qual (defArgs st) (defBody st) (defScope st) .none kV doc pm an cdv ct),osl⟩)
  (c:PySem.W.codeIn K cdv qual=true) (k:PySem.W.keepIn K (.ref f)=true):Fun K x qual st f (PySem.W.fnOf x qual (defArgs st) (defBody st) (defScope st) .none kV doc pm an cdv ct):=⟨⟨oc,od,kV,doc,pm,an,cdv,ct,osl,rfl,l,c⟩,k⟩
end
section
variable{X:Cx}
theorem pv(i:Nat){x:Str}{pos:Pos}(hN:X.N[i]?=some x:=by rfl)(hv:Vis X.env.scope x:=by first | exact Or.inl rfl | exact Or.inr (Or.inl rfl) | exact Or.inr (Or.inr rfl)) (hd:(x == ("__debug__" : Str))=false:=by decide)
  (hcd:(x == ("__classdict__" : Str))=false:=by decide):PE X (.Name x pos) (tVar i):=pe_var hN hv hd hcd
end
def Same(H H':Hp):Prop:=∀b o,H b=some o->H' b=some o
theorem Same.free{H H':Hp}(e:Same H H'){l:Addr}(h:H' l=Option.none):H l=Option.none:=by
 cases q:H l with
 |none=>rfl
 | some o =>
  rw[e l o q]at h;cases h
end L2
set_option maxHeartbeats 0
namespace L2
open PySem PySem.Spec
open Sem (wp)
theorem slot_fn_ga:Slot "function" "__getattribute__" "object.__getattribute__" :=
 .of (owner:="object") (n:="__getattribute__") (by rw[typeLookup_type,builtinLookup_eq_fast]; kernel_rfl) zd zd zd
  (by first|exact .inl zd|exact .inr zd) (by rw[isSubtype_type];kernel_rfl)
theorem entry_fn_ga:entryFor table "object.__getattribute__"=some Builtin.«object.__getattribute__»:=by
 first | exact F.entry_object_getattribute | exact entryFor_alias (id':="object.__getattribute__") zb (by first | rfl | decide +kernel) zd zb | kernel_rfl
theorem args_fn_ga(a b:Value):argsOk "object.__getattribute__" ⟨[a,b],[]⟩:=by
 first|exact F.args_object_getattribute_2 a b|(unfold argsOk;kernel_rfl)
theorem lk_fn_class:typeLookup (.type "function") "__class__"=pure (some (.builtin "object.__class__")):=by rw[typeLookup_type,builtinLookup_eq_fast]; kernel_rfl
theorem sub_fn_class_owner:isSubtype (.type "function") (.type (".".intercalate ("object.__class__".cutAt '.').dropLast))=pure true:=by rw[F.owner_object_class,isSubtype_type];kernel_rfl
section
variable{prog:Program}{w:World}{A:Around}{E:Value->Shared->Prop}{h:Heap}{g:Array GenState}{d:Drawn}{t:Nat}{os:OsState}{a:Addr}{o:Obj}
theorem class_get_fn{R:Result->Shared->Prop}(hx:h.get? a=some o) (hc:o.cls=.type "function") (hq:R (.ok (.ret (.type "function"))) ⟨h,g,d,t,os⟩) :
  codeAny (model prog w) A (.call (.builtin "getset_descriptor.__get__") ⟨[.builtin "object.__class__",.ref a,.type "function"],[]⟩) R ⟨h,g,d,t,os⟩:=by
 have hT:(⟨h,g,d,t,os⟩:Shared).TypeIs (.ref a) "function":=⟨_,hx,hc⟩;have hT5:(⟨h,g,d,t,os⟩:Shared).TypeIs (.builtin "object.__class__") "getset_descriptor":=F.typeOf_object_class;have f8:=sub_fn_class_owner;refine bX F.slot_gs_get.plain F.entry_gs_get (F.slot_gs_get.check _ _ _ _ _ _ _ _ hT5 (F.args_gs_get _ _ _) ?_)
 repeat (any_goals (first|assumption|wp_step))
 refine⟨Code.quiet_builtin _ zd,codeAny_builtin F.entry_object_class ?_⟩
 repeat (any_goals (first|assumption|wp_step))
theorem class_entry_fn{tk:Tok}{Q:PySem.Fin->Shared->Prop}(hx:h.get? a=some o) (hc:o.cls=.type "function") (hq:Q (.done (.ret (.type "function"))) ⟨h,g,d,t,os⟩) :
  wpAny (model prog w) A (Builtin.«object.__getattribute__» ⟨[.ref a,.str "__class__" tk],[]⟩) Q E ⟨h,g,d,t,os⟩:=by
 have hT:(⟨h,g,d,t,os⟩:Shared).TypeIs (.ref a) "function":=⟨_,hx,hc⟩;have hT5:(⟨h,g,d,t,os⟩:Shared).TypeIs (.builtin "object.__class__") "getset_descriptor":=F.typeOf_object_class;have f4:=lk_fn_class;have f5:=F.typeOf_object_class;have f6:=F.slot_gs_get.lookup;have f7:=F.slot_gs_set.lookup
 repeat (any_goals (first|assumption|wp_step))
 refine class_get_fn hx hc ?_
 repeat (any_goals (first|assumption|wp_step))
theorem class_call_fn{tk:Tok}{R:Result->Shared->Prop}(hx:h.get? a=some o) (hc:o.cls=.type "function") (hq:R (.ok (.ret (.type "function"))) ⟨h,g,d,t,os⟩) :
  codeAny (model prog w) A (.call (.builtin "object.__getattribute__") ⟨[.ref a,.str "__class__" tk],[]⟩) R ⟨h,g,d,t,os⟩ :=
 bX slot_fn_ga.plain entry_fn_ga (slot_fn_ga.check _ _ _ _ _ _ _ _ (show(⟨h,g,d,t,os⟩:Shared).TypeIs (.ref a) "function" from⟨_,hx,hc⟩) (args_fn_ga _ _) (class_entry_fn hx hc hq))
theorem class_by_fn{tk:Tok}{Q:Value->Shared->Prop}(hx:h.get? a=some o) (hc:o.cls=.type "function") (hq:Q (.type "function") ⟨h,g,d,t,os⟩):wpAny (model prog w) A (getAttrBy (.ref a) (.str "__class__" tk) false) Q E ⟨h,g,d,t,os⟩:=by
 have hT:(⟨h,g,d,t,os⟩:Shared).TypeIs (.ref a) "function":=⟨_,hx,hc⟩;have f2:=slot_fn_ga.lookup;have f3:=slot_fn_ga.bind (.ref a)
 repeat (any_goals (first|assumption|wp_step))
 refine class_call_fn hx hc ?_
 repeat (any_goals (first|assumption|wp_step))
theorem class_attr_fn{Q:Option Value->Shared->Prop}(hx:h.get? a=some o) (hc:o.cls=.type "function") (hq:Q (some (.type "function")) ⟨h,g,d,t+1,os⟩):wpAny (model prog w) A (getAttr? (.ref a) "__class__") Q E ⟨h,g,d,t,os⟩:=by
 unfold getAttr? getAttrBy?
 repeat (any_goals (first|assumption|with_reducible apply class_by_fn hx hc|wp_step))
end
theorem kitx_fn{K:PySem.W.Frag}{a:Addr}:PySem.W.KitX K (.ref a) (.type "function") (PySem.W.KitAt a "function"):=PySem.W.kitx_of PySem.W.kitAt_ty (λ{_ _ _ _ _ s} p k=>by obtain⟨h,g,d,t,os⟩:=s; obtain⟨o,h1,h2⟩:=p; exact class_attr_fn h1 h2 k)
end L2
namespace L2
open PySem PySem.Spec PyProof.Rows
inductive D where
 |non|bl (b:Bool)|int (i:Int)|str (x:Str)|tup (xs:List D)|lst (xs:List D)|dct (n:Nat)|exc (c:Str) (ns:List Str) (xs:List D)|fn (x:Str) (d:D)|dk (ks:List Key) (vs:List D)|gf (x:Str)
def SqZ(K:PySem.W.Frag)(H:Hp)(a:Addr)(xs:List V):Prop :=
 (∃o,H a=some (.frz o (.lst xs))) ∨
  ∃(o:Obj)(its:Array Value)(n:Nat),K.lookup a=some o/\o.cls=.type "list"/\o.dict=none/\o.data=.seq its n/\its.size<=sizeLine/\Vals xs its.toList
theorem SqZ.l{K:PySem.W.Frag}{H:Hp}{a:Addr}{xs:List V}(h:SqZ K H a xs):SqL K H a xs:=by
 rcases h with⟨o,h⟩|h
 . exact .inl (.inr ⟨o,h⟩)
 . exact .inr h
def noIns:HO->Prop
 |.frz _ u=>noIns u
 |.ins _ _ _=>False
 |_=>True
noncomputable def xMro(C L:Addr):List Value:=(if C=L then[]else[.ref C])++[.ref L,.type "ValueError",.type "Exception",.type "BaseException",.type "object"]
noncomputable def excStd(K:PySem.W.Frag)(c:Str)(C:Addr):Bool:=match PySem.W.clsIn K C,PySem.W.nsIn K mainGlobals "LoadError" with
 | some cd,some (some (.ref L))=>cd.name == c && cd.hasDict && cd.mro == xMro C L && (PySem.W.clsIn K L).any (λk=>k.name == ("LoadError" : Str)) &&
  PySem.W.findIn K (.ref C) "__getattribute__" == some (some (.builtin "BaseException.__getattribute__")) && PySem.W.findIn K (.ref C) "__getattr__" == some none && PySem.W.findIn K (.ref C) "__class__" == some (some (.builtin "object.__class__")) &&
  PySem.W.findIn K (.ref C) "__setattr__" == some (some (.builtin "object.__setattr__")) && PySem.W.typeIn K (.ref C) == some (.type "type") && PySem.W.nsIn K mainGlobals c == some (some (.ref C))
 |_,_=>false
noncomputable def lamOf:List Stmt->Option (Arguments×Expr×Scope×Pos)
 |[]=>none
 | st::r=>match lamOf r with
  |some l=>some l
  | none=>match st with
   | .Expr (.Call _ args _ _) _=>(match args.getLast? with
    |some (.Lambda p b sc pos)=>some (p,b,sc,pos)
    |_=>none)
   | .Return (some (.Call _ _ kws _)) _=>(match kws.getLast? with
    |some ⟨_,.Lambda p b sc pos,_⟩=>some (p,b,sc,pos)
    |_=>none)
   |_=>none
noncomputable def lamIn(K:PySem.W.Frag)(x:Str):Option (Arguments×Expr×Scope×Pos):=match PySem.W.nsIn K mainGlobals x with
 | some (some (.ref f))=>(match K.lookup f with
  | some ⟨_,_,.func fd,_⟩=>(match fd.body with
   |.stmts b=>lamOf b
   |_=>none)
  |_=>none)
 |_=>none
def XF(H:Hp)(dx:Option Addr)(ns:List Str)(vs:List V):Prop:=(ns=[]/\vs=[]/\dx=none)∨∃d od,dx=some d/\H d=some (.frz od (.xd (ns.zip vs)))/\ns.length=vs.length
mutual
inductive Rep (K:PySem.W.Frag) (H:Hp):V->D->Prop where
 |non:Rep K H .non .non
 |bl (b:Bool):Rep K H (.bl b) (.bl b)
 |int (i:Int):Rep K H (.int i) (.int i)
 |str (x:Str):Rep K H (.str x) (.str x)
 |tup {a:Addr} {vs:List V} {ds:List D} (h:SqT K H a vs) (r:Reps K H vs ds):Rep K H (.ref a) (.tup ds)
 |lst {a:Addr} {vs:List V} {ds:List D} (h:SqZ K H a vs) (r:Reps K H vs ds):Rep K H (.ref a) (.lst ds)
 |dct {a:Addr} {o:Obj} {kvs:List (Key×V)} (h:H a=some (.frz o (.dK kvs))):Rep K H (.ref a) (.dct kvs.length)
 |exc {a:Addr} {o:Obj} {u:HO} {c:Str} {C:Addr} {ns:List Str} {vs:List V} {ds:List D} (h:H a=some (.frz o u)) (hv:noIns u) (hc:o.cls=.ref C) (hn:PySem.W.notCls o=true) (hs:excStd K c C=true) (hq:∀f∈ns,PySem.W.findIn K (.ref C) f=some none) (hf:XF H o.dict ns vs) (r:Reps K H vs ds):Rep K H (.ref a) (.exc c ns ds)
 | fn {f c c':Addr} {oc oq:Obj} {x y:Str} {pr:Arguments} {bd:Expr} {sc:Scope} {pos:Pos} {pm ctv u:Value} {v:V} {d:D} (hl:lamIn K x=some (pr,bd,sc,pos)) (hf:H f=some (.frz (PySem.W.kla_obj "<lambda>" (lamQ x) pr bd sc [(y,c)] pm c' ctv) (.own f)))
  (hq:H c'=some (.frz oq (.own c'))) (hc:CodeOb oq (lamQ x)) (hz:H c=some (.frz oc (.own c))) (hd:oc.data=.cell (some u)) (hv:RelV v u) (hm:(y,NameKind.free)∈sc.names) (r:Rep K H v d):Rep K H (.ref f) (.fn x d)
 |dk {a:Addr} {o:Obj} {kvs:List (Key×V)} {ds:List D} (h:H a=some (.frz o (.dK kvs))) (r:Reps K H (kvs.map (·.2)) ds):Rep K H (.ref a) (.dk (kvs.map (·.1)) ds)
 |gf {a:Addr} {x:Str} {fd:FuncData} (h:PySem.W.nsIn K mainGlobals x=some (some (.ref a))) (ho:K.lookup a=some ⟨.type "function",none,.func fd,#[]⟩) (hk:PySem.W.keepIn K (.ref a)=true):Rep K H (.ref a) (.gf x)
inductive Reps (K:PySem.W.Frag) (H:Hp):List V->List D->Prop where
 |nil:Reps K H [] []
 |cons {v:V} {d:D} {vs:List V} {ds:List D} (h:Rep K H v d) (t:Reps K H vs ds):Reps K H (v::vs) (d::ds)
end
def Pers:HO->Prop
 |.tup _=>True
 |.frz _ _=>True
 |.tbl _=>True
 |_=>False
def Pres(H H':Hp):Prop:=∀b o,Pers o->H b=some o->H' b=some o
theorem SqT.pres{K:PySem.W.Frag}{H H':Hp}{a:Addr}{xs:List V}(p:Pres H H')(h:SqT K H a xs):SqT K H' a xs:=by
 rcases h with(h|⟨o,h⟩)|h
 . exact .inl (.inl (p _ _ True.intro h))
 . exact .inl (.inr ⟨o,p _ _ True.intro h⟩)
 . exact .inr h
theorem SqZ.pres{K:PySem.W.Frag}{H H':Hp}{a:Addr}{xs:List V}(p:Pres H H')(h:SqZ K H a xs):SqZ K H' a xs:=by
 rcases h with⟨o,h⟩|h
 . exact .inl ⟨o,p _ _ True.intro h⟩
 . exact .inr h
theorem XF.pres{H H':Hp}(p:Pres H H'){dx:Option Addr}{ns:List Str}{vs:List V}(h:XF H dx ns vs):XF H' dx ns vs:=by
 rcases h with h|⟨d,od,e,h,l⟩
 . exact .inl h
 . exact .inr ⟨d,od,e,p _ _ True.intro h,l⟩
mutual
theorem Rep.pres{K:PySem.W.Frag}{H H':Hp}(p:Pres H H'):∀{v:V}{d:D},Rep K H v d->Rep K H' v d
 |_,_,.non=>.non
 |_,_,.bl b=>.bl b
 |_,_,.int i=>.int i
 |_,_,.str x=>.str x
 |_,_,.tup h r=>.tup (h.pres p) (Reps.pres p r)
 |_,_,.lst h r=>.lst (h.pres p) (Reps.pres p r)
 |_,_,.dct h=>.dct (p _ _ True.intro h)
 |_,_,.exc h hv hc hn hs hq hf r=>.exc (p _ _ True.intro h) hv hc hn hs hq (hf.pres p) (Reps.pres p r)
 |_,_,.fn hl hf hq hc hz hd hv hm r=>.fn hl (p _ _ True.intro hf) (p _ _ True.intro hq) hc (p _ _ True.intro hz) hd hv hm (Rep.pres p r)
 |_,_,.dk h r=>.dk (p _ _ True.intro h) (Reps.pres p r)
 |_,_,.gf h ho hk=>.gf h ho hk
theorem Reps.pres{K:PySem.W.Frag}{H H':Hp}(p:Pres H H'):∀{vs:List V}{ds:List D},Reps K H vs ds->Reps K H' vs ds
 |_,_,.nil=>.nil
 |_,_,.cons h t=>.cons (Rep.pres p h) (Reps.pres p t)
end
theorem Reps.length{K:PySem.W.Frag}{H:Hp}:∀{vs:List V}{ds:List D},Reps K H vs ds->vs.length=ds.length
 |_,_,.nil=>rfl
 |_,_,.cons _ t=>by simp[Reps.length t]
theorem Reps.get{K:PySem.W.Frag}{H:Hp}:∀{vs:List V}{ds:List D}{i:Nat}{d:D},Reps K H vs ds->ds[i]?=some d->∃v,vs[i]?=some v/\Rep K H v d
 |_,_,_,_,.nil,e=>by simp at e
 |_,_,0,_,.cons h _,e=>by simp at e;subst e;exact⟨_,rfl,h⟩
 | _,_,i+1,d,.cons _ t,e=>by obtain⟨v,h1,h2⟩:=Reps.get (i:=i) (d:=d) t (by simpa using e);exact⟨v,by simpa using h1,h2⟩
theorem Reps.set{K:PySem.W.Frag}{H:Hp}{v:V}{d:D}(r:Rep K H v d):∀{vs:List V}{ds:List D}(i:Nat),Reps K H vs ds->Reps K H (vs.set i v) (ds.set i d)
 |_,_,_,.nil=>.nil
 |_,_,0,.cons _ t=>.cons r t
 |_,_,i+1,.cons h t=>.cons h (Reps.set r i t)
theorem Reps.append{K:PySem.W.Frag}{H:Hp}:∀{vs us:List V}{ds es:List D},Reps K H vs ds->Reps K H us es->Reps K H (vs++us) (ds++es)
 |_,_,_,_,.nil,s=>s
 |_,_,_,_,.cons h t,s=>.cons h (Reps.append t s)
theorem Reps.take{K:PySem.W.Frag}{H:Hp}:∀{vs:List V}{ds:List D}(n:Nat),Reps K H vs ds->Reps K H (vs.take n) (ds.take n)
 |_,_,0,_=>.nil
 |_,_,_+1,.nil=>.nil
 |_,_,n+1,.cons h t=>.cons h (Reps.take n t)
theorem Reps.drop{K:PySem.W.Frag}{H:Hp}:∀{vs:List V}{ds:List D}(n:Nat),Reps K H vs ds->Reps K H (vs.drop n) (ds.drop n)
 |_,_,0,r=>r
 |_,_,_+1,.nil=>.nil
 |_,_,n+1,.cons _ t=>Reps.drop n t
inductive L where
 |un|d (x:D)|own (a:Addr) (xs:List D)|bx (k:Option Addr) (ls:List L)|dic (a:Addr) (kvs:List (Key×D))
noncomputable abbrev Ev:=List L
mutual
noncomputable def ownsL:L->List Addr
 |.un=>[]
 |.d _=>[]
 |.own a _=>[a]
 |.bx k ls=>k.toList++ownsLs ls
 |.dic a _=>[a]
noncomputable def ownsLs:List L->List Addr
 |[]=>[]
 |l::ls=>ownsL l++ownsLs ls
end
noncomputable def owns(Z:Ev):List Addr:=Z.flatMap ownsL
theorem ownsLs_eq:∀ls:List L,ownsLs ls=owns ls
 |[]=>rfl
 |l::ls=>by rw[ownsLs,ownsLs_eq ls];rfl
mutual
def Slot1(K:PySem.W.Frag)(H:Hp)(s:Option V):L->Prop
 |.un=>True
 |.d x=>∃v,s=some v/\Rep K H v x
 |.own a xs=>s=some (.ref a)/\∃vs,H a=some (.lst vs)/\Reps K H vs xs
 |.bx none ls=>∃a vs,s=some (.ref a)/\SqT K H a vs/\Slots K H vs ls
 |.bx (some a) ls=>s=some (.ref a)/\∃vs,H a=some (.lst vs)/\Slots K H vs ls
 |.dic a kvs=>s=some (.ref a)/\∃vs,H a=some (.dK vs)/\Paired (λ(p:Key×V) (q:Key×D)=>p.1=q.1/\Rep K H p.2 q.2) vs kvs
def Slots(K:PySem.W.Frag)(H:Hp)(vs:List V):List L->Prop
 |[]=>vs=[]
 |l::ls=>∃v us,vs=v::us/\Slot1 K H (some v) l/\Slots K H us ls
end
mutual
theorem Slot1.pres{K:PySem.W.Frag}{H H':Hp}(p:Pres H H'):∀{s:Option V}(l:L),(∀a∈ownsL l,H' a=H a)->Slot1 K H s l->Slot1 K H' s l
 |_,.un,_,_=>by simp only[Slot1]
 | _,.d x,_,h=>by
  simp only[Slot1]at h ⊢
  obtain⟨v,e,r⟩:=h
  exact⟨v,e,r.pres p⟩
 | _,.own a xs,q,h=>by
  simp only[Slot1]at h ⊢
  obtain⟨e,vs,ha,r⟩:=h
  exact⟨e,vs,(q a (by simp[ownsL])).trans ha,r.pres p⟩
 | _,.bx none ls,q,h=>by
  simp only[Slot1]at h ⊢
  obtain⟨a,vs,e,ha,r⟩:=h
  exact⟨a,vs,e,ha.pres p,Slots.pres p ls (λb hb=>q b (by simp[ownsL,hb])) r⟩
 | _,.bx (some a) ls,q,h=>by
  simp only[Slot1]at h ⊢
  obtain⟨e,vs,ha,r⟩:=h
  exact⟨e,vs,(q a (by simp[ownsL])).trans ha,Slots.pres p ls (λb hb=>q b (by simp[ownsL,hb])) r⟩
 | _,.dic a kvs,q,h=>by
  simp only[Slot1]at h ⊢
  obtain⟨e,vs,ha,r⟩:=h
  exact⟨e,vs,(q a (by simp[ownsL])).trans ha,Paired.mapP r λ_ _ z=>⟨z.1,z.2.pres p⟩⟩
theorem Slots.pres{K:PySem.W.Frag}{H H':Hp}(p:Pres H H'):∀{vs:List V}(ls:List L),(∀a∈ownsLs ls,H' a=H a)->Slots K H vs ls->Slots K H' vs ls
 |_,[],_,h=>by simpa only[Slots]using h
 | _,l::ls,q,h=>by
  simp only[Slots]at h ⊢
  obtain⟨v,us,e,h1,h2⟩:=h
  exact⟨v,us,e,Slot1.pres p l (λb hb=>q b (by simp[ownsLs,hb])) h1,Slots.pres p ls (λb hb=>q b (by simp[ownsLs,hb])) h2⟩
end
def OMut:HO->Prop
 |.lst _=>True
 |.dK _=>True
 |_=>False
theorem OMut.no{o:HO}(h:OMut o)(p:Pers o):False:=by cases o<;>first|exact h|exact p
mutual
theorem Slot1.lstAt{K:PySem.W.Frag}{H:Hp}:∀{s:Option V}(l:L),Slot1 K H s l->∀a∈ownsL l,∃o,H a=some o/\OMut o
 |_,.un,_,a,ha=>by simp[ownsL]at ha
 |_,.d x,_,a,ha=>by simp[ownsL]at ha
 | _,.own b xs,h,a,ha=>by
  simp only[Slot1]at h
  have e:a=b:=by simpa[ownsL]using ha
  subst e
  obtain⟨_,vs,q,_⟩:=h
  exact⟨_,q,True.intro⟩
 | _,.bx none ls,h,a,ha=>by
  simp only[Slot1]at h
  obtain⟨b,vs,e,_,r⟩:=h
  exact Slots.lstAt ls r a (by simpa[ownsL]using ha)
 | _,.bx (some b) ls,h,a,ha=>by
  simp only[Slot1]at h
  obtain⟨e,vs,q,r⟩:=h
  rcases(by simpa[ownsL]using ha:a=b∨a∈ownsLs ls)with z|z
  .
   subst z;exact⟨_,q,True.intro⟩
  .
   exact Slots.lstAt ls r a z
 | _,.dic b xs,h,a,ha=>by
  simp only[Slot1]at h
  have e:a=b:=by simpa[ownsL]using ha
  subst e
  obtain⟨_,vs,q,_⟩:=h
  exact⟨_,q,True.intro⟩
theorem Slots.lstAt{K:PySem.W.Frag}{H:Hp}:∀{vs:List V}(ls:List L),Slots K H vs ls->∀a∈ownsLs ls,∃o,H a=some o/\OMut o
 |_,[],_,a,ha=>by simp[ownsLs]at ha
 | _,l::ls,h,a,ha=>by
  simp only[Slots]at h
  obtain⟨v,us,e,h1,h2⟩:=h
  rcases(by simpa[ownsLs]using ha:a∈ownsL l∨a∈ownsLs ls)with z|z
  .
   exact Slot1.lstAt l h1 a z
  .
   exact Slots.lstAt ls h2 a z
end
structure REnv (K:PySem.W.Frag) (Pr H:Hp) (σ:St) (Z:Ev):Prop where
 sub:∀b o,Pr b=some o->H b=some o
 nd:(owns Z).Nodup
 off:∀a∈owns Z,Pr a=none
 sl:Paired (Slot1 K H) σ Z
theorem mem_owns{Z:Ev}{a:Addr}:a∈owns Z↔∃l∈Z,a∈ownsL l:=by unfold owns;rw[List.mem_flatMap]
theorem own_mem{Z:Ev}{a:Addr}{xs:List D}(h:L.own a xs∈Z):a∈owns Z:=mem_owns.mpr ⟨_,h,by simp[ownsL]⟩
theorem owns_append(a b:Ev):owns (a++b)=owns a++owns b:=List.flatMap_append
theorem Paired.mem2{α β:Type}{F:α->β->Prop}:∀{l1:List α}{l2:List β}{b:β},Paired F l1 l2->b∈l2->∃a,a∈l1/\F a b
 |_,_,_,.nil,h=>by simp at h
 | _,_,_,.cons r t,h=>by
  rcases aD.mp h with rfl|h
  . exact⟨_,ao,r⟩
  . obtain⟨a,h1,h2⟩:=Paired.mem2 t h;exact⟨a,ai _ h1,h2⟩
theorem Paired.app{α β:Type}{F:α->β->Prop}:∀{a c:List α}{b d:List β},Paired F a b->Paired F c d->Paired F (a++c) (b++d)
 |_,_,_,_,.nil,s=>s
 |_,_,_,_,.cons r t,s=>.cons r (Paired.app t s)
theorem Paired.unapp{α β:Type}{F:α->β->Prop}:∀{a c:List α}{b d:List β},a.length=b.length->Paired F (a++c) (b++d)->Paired F a b/\Paired F c d
 |[],_,[],_,_,s=>⟨.nil,s⟩
 | x::a,_,y::b,_,hl,.cons r t=>by obtain⟨p,q⟩:=Paired.unapp (a:=a) (b:=b) (by simpa using hl) t;exact⟨.cons r p,q⟩
 |[],_,_::_,_,hl,_=>by simp at hl
 |_::_,_,[],_,hl,_=>by simp at hl
theorem Paired.get2{α β:Type}{F:α->β->Prop}:∀{l1:List α}{l2:List β}{i:Nat}{b:β},Paired F l1 l2->l2[i]?=some b->∃a,l1[i]?=some a/\F a b
 |_,_,_,_,.nil,e=>by simp at e
 |_,_,0,_,.cons h _,e=>by simp at e;subst e;exact⟨_,rfl,h⟩
 | _,_,i+1,d,.cons _ t,e=>by obtain⟨v,h1,h2⟩:=Paired.get2 (i:=i) (b:=d) t (by simpa using e);exact⟨v,by simpa using h1,h2⟩
theorem Paired.set2{α β:Type}{F:α->β->Prop}{a:α}{b:β}(r:F a b):∀{l1:List α}{l2:List β}(i:Nat),Paired F l1 l2->Paired F (l1.set i a) (l2.set i b)
 |_,_,_,.nil=>.nil
 |_,_,0,.cons _ t=>.cons r t
 |_,_,i+1,.cons h t=>.cons h (Paired.set2 r i t)
theorem Paired.impMem{α β:Type}{F G:α->β->Prop}:∀{l1:List α}{l2:List β},Paired F l1 l2->(∀b∈l2,∀a,F a b->G a b)->Paired G l1 l2
 |_,_,.nil,_=>.nil
 |_,_,.cons r t,h=>.cons (h _ ao _ r) (Paired.impMem t λb hb=>h b (ai _ hb))
theorem Paired.set_r{α β:Type}{F:α->β->Prop}{b:β}:∀{l1:List α}{l2:List β}(i:Nat),Paired F l1 l2->(∀a,l1[i]?=some a->F a b)->Paired F l1 (l2.set i b)
 |_,_,_,.nil,_=>.nil
 |_,_,0,.cons _ t,h=>.cons (h _ rfl) t
 |_,_,i+1,.cons q t,h=>.cons q (Paired.set_r i t λa e=>h a (by simpa using e))
section
variable{K:PySem.W.Frag}{Pr H H':Hp}{σ τ w σ':St}{Z μ lam Z':Ev}
theorem REnv.len(E:REnv K Pr H σ Z):σ.length=Z.length:=Paired.length E.sl
noncomputable def butOwn(H:Hp)(Z:Ev):Hp:=λb=>if b∈owns Z then none else H b
theorem REnv.at_own(E:REnv K Pr H σ Z){a:Addr}(h:a∈owns Z):∃o,H a=some o/\OMut o:=by obtain⟨l,hx,ha⟩:=mem_owns.mp h;obtain⟨s,_,q⟩:=Paired.mem2 E.sl hx;exact q.lstAt l a ha
theorem REnv.wide(E:REnv K Pr H σ Z):REnv K (butOwn H Z) H σ Z :=
 ⟨λb o e=>by unfold butOwn at e;split at e;cases e;exact e,E.nd,λa h=>by unfold butOwn;rw[if_pos h],E.sl⟩
theorem REnv.drop(E:REnv K Pr H (τ++σ) (lam++Z))(hl:τ.length=lam.length):REnv K Pr H σ Z :=
 ⟨E.sub,(aJ.mp (owns_append lam Z ▸ E.nd)).2.1,λa h=>E.off a (by rw[owns_append];exact az _ h),(Paired.unapp hl E.sl).2⟩
theorem REnv.left(E:REnv K Pr H (τ++σ) (lam++Z))(hl:τ.length=lam.length):REnv K Pr H τ lam :=
 ⟨E.sub,(aJ.mp (owns_append lam Z ▸ E.nd)).1,λa h=>E.off a (by rw[owns_append];exact av _ h),(Paired.unapp hl E.sl).1⟩
theorem pres_of{H H':Hp}{Z:Ev}{σ:St}{Pr:Hp}(E:REnv K Pr H σ Z)(h:∀b o,butOwn H Z b=some o->H' b=some o):Pres H H':=λb o p e=>by refine h b o ?_;unfold butOwn;rw[if_neg,e];intro hm;obtain⟨u,e',m⟩:=E.at_own hm;rw[e]at e';cases e';exact m.no p
theorem REnv.step(E:REnv K Pr H (τ++σ) (lam++Z))(hl:τ.length=lam.length)(E':REnv K (butOwn H Z) H' (w++σ') (μ++Z'))(hw:w.length=μ.length):REnv K Pr H' (w++(τ++σ')) (μ++(lam++Z')):=by
 have Eσ:=E.drop hl;have p:Pres H H':=pres_of Eσ E'.sub;have dis:∀a∈owns lam,a∉owns Z:=λa h1 h2=>(aJ.mp (owns_append lam Z ▸ E.nd)).2.2 a h1 a h2 rfl;have at':∀a∈owns lam,butOwn H Z a=H a:=λa h=>by unfold butOwn;rw[if_neg (dis a h)]
 have some':∀a∈owns lam,∃o,H a=some o/\OMut o:=λa h=>E.at_own (by rw[owns_append];exact av _ h);have out:∀a∈owns lam,a∉owns (μ++Z'):=λa h h2=>by have z:=E'.off a h2;rw[at' a h]at z;obtain⟨vs,e,_⟩:=some' a h;rw[e]at z;cases z
 have s1:=(Paired.unapp hw E'.sl);have s2:=(Paired.unapp hl E.sl).1;refine⟨λb o e=>?_,?_,λa ha=>?_,Paired.app s1.1 (Paired.app ?_ s1.2)⟩
 . refine E'.sub b o ?_;unfold butOwn;rw[if_neg,E.sub b o e];intro hm;have z:=Eσ.off b hm;rw[e]at z;cases z
 .
  have n1:=E'.nd;rw[owns_append]at n1;rw[owns_append,owns_append];obtain⟨q1,q2,q3⟩:=aJ.mp n1;refine aJ.mpr ⟨q1,aJ.mpr ⟨(aJ.mp (owns_append lam Z ▸ E.nd)).1,q2,λa ha b hb=>?_⟩,λa ha b hb=>?_⟩
  . rintro rfl;exact out a ha (by rw[owns_append];exact az _ hb)
  .
   rcases aH.mp hb with hb|hb
   . rintro rfl;exact out a hb (by rw[owns_append];exact av _ ha)
   . exact q3 a ha b hb
 .
  rw[owns_append,owns_append]at ha
  have key:a∈owns (μ++Z')->Pr a=none:=λh=>by
   have z:=E'.off a h;unfold butOwn at z;by_cases hm:a∈owns Z
   . exact Eσ.off a hm
   .
    rw[if_neg hm]at z
    cases q:Pr a with
    |none=>rfl
    |some o=>rw[E.sub a o q]at z;cases z
  rcases aH.mp ha with h|h
  . exact key (by rw[owns_append];exact av _ h)
  .
   rcases aH.mp h with h|h
   . exact E.off a (by rw[owns_append];exact av _ h)
   . exact key (by rw[owns_append];exact az _ h)
 .
  have:∀l∈lam,∀s,Slot1 K H s l->Slot1 K H' s l:=λl hlm s h=>h.pres p l λa e=>by have ha:a∈owns lam:=mem_owns.mpr ⟨l,hlm,e⟩;obtain⟨vs,e,_⟩:=some' a ha;rw[E'.sub a _ ((at' a ha).trans e),e]
  exact Paired.impMem s2 this
end
end L2
namespace L2
open PySem PySem.Spec PyProof.Rows PySem.W
structure XStd (K:Frag) (c:Str) (C L:Addr) (cd:ClassData):Prop where
 cls:clsIn K C=some cd
 load:nsIn K mainGlobals "LoadError"=some (some (.ref L))
 name:cd.name=c
 dct:cd.hasDict=true
 mro:cd.mro=xMro C L
 lname:∃ k,clsIn K L=some k/\k.name=("LoadError" : Str)
 ga:findIn K (.ref C) "__getattribute__"=some (some (.builtin "BaseException.__getattribute__"))
 gx:findIn K (.ref C) "__getattr__"=some none
 gc:findIn K (.ref C) "__class__"=some (some (.builtin "object.__class__"))
 sa:findIn K (.ref C) "__setattr__"=some (some (.builtin "object.__setattr__"))
 ty:typeIn K (.ref C)=some (.type "type")
 own:nsIn K mainGlobals c=some (some (.ref C))
theorem excStd_is{K:Frag}{c:Str}{C:Addr}(h:excStd K c C=true):∃L cd,XStd K c C L cd:=by
 unfold excStd at h;split at h
 . rename_i cd L e1 e2;simp only[aL,b8]at h;obtain⟨⟨⟨⟨⟨⟨⟨⟨⟨h1,h2⟩,h3⟩,h4⟩,h5⟩,h6⟩,h7⟩,h8⟩,h9⟩,h10⟩:=h;obtain⟨k,hk,hn⟩:=any_some h4;exact⟨L,cd,e1,e2,h1,h2,h3,⟨k,hk,b8.mp hn⟩,h5,h6,h7,h8,h9,h10⟩
 . cases h
section
variable{K:Frag}{c:Str}{C L:Addr}{cd:ClassData}
theorem xMro_or(C L:Addr):xMro C L=[.ref C,.ref L,.type "ValueError",.type "Exception",.type "BaseException",.type "object"]∨xMro C L=[.ref L,.type "ValueError",.type "Exception",.type "BaseException",.type "object"]/\C=L:=by
 by_cases h:C=L
 . exact .inr ⟨by unfold xMro;rw[if_pos h];rfl,h⟩
 . exact .inl (by unfold xMro;rw[if_neg h];rfl)
theorem xMro_has(C L:Addr)(b:Value):(xMro C L).contains b=([.ref C,.ref L,.type "ValueError",.type "Exception",.type "BaseException",.type "object"]:List Value).contains b:=by
 rcases xMro_or C L with e|⟨e,h⟩
 . rw[e]
 . subst h;rw[e];simp only[bE,<- Bool.or_assoc,Bool.or_self]
theorem XStd.mroIn(S:XStd K c C L cd)(b:Value):PySem.W.mroIn K C b=some (([.ref C,.ref L,.type "ValueError",.type "Exception",.type "BaseException",.type "object"]:List Value).contains b):=by
 unfold PySem.W.mroIn;rw[S.cls,Option.bind_some,S.mro];have ne:(xMro C L).isEmpty=false:=by rcases xMro_or C L with e|⟨e,_⟩<;>rw[e]<;>rfl
 show(if(xMro C L).isEmpty=true then none else some ((xMro C L).contains b))=_
 rw[ne,xMro_has];rfl
theorem xmro_type(C L:Addr)(T:String):(([.ref C,.ref L,.type "ValueError",.type "Exception",.type "BaseException",.type "object"]:List Value).contains (.type T))=(["ValueError","Exception","BaseException","object"]:List String).contains T:=by
 simp only[bE,List.contains_nil,bZ];have e:∀a:Addr,(Value.type T == Value.ref a)=false:=λ_=>rfl
 have f:∀U:String,(Value.type T == Value.type U)=(T == U):=λU=>by
  by_cases q:T=U
  . subst q;simp
  . rw[aT.mpr q,aT];intro z;injection z with z;exact q z
 rw[e,e,f,f,f,f];rfl
theorem xmro_ref(C L D:Addr):(([.ref C,.ref L,.type "ValueError",.type "Exception",.type "BaseException",.type "object"]:List Value).contains (.ref D))=(D == C ||D == L):=by
 simp only[bE,List.contains_nil,bZ];have e:∀T:String,(Value.ref D == Value.type T)=false:=λ_=>rfl
 have f:∀a:Addr,(Value.ref D == Value.ref a)=(D == a):=λU=>by
  by_cases q:D=U
  . subst q;simp
  . rw[aT.mpr q,aT];intro z;injection z with z;exact q z
 rw[e,e,e,e,f,f,bZ,bZ,bZ,bZ]
theorem XStd.has(S:XStd K c C L cd){T:String} (h:(["ValueError","Exception","BaseException","object"]:List String).contains T=true):PySem.W.mroIn K C (.type T)=some true:=by rw[S.mroIn,xmro_type,h]
theorem XStd.isT(S:XStd K c C L cd){M:Model}{h:Heap}(X:K.In h)(T:String):Looks M h (isSubtype (.ref C) (.type T)) ((["ValueError","Exception","BaseException","object"]:List String).contains T):=looks_mroIn X (by rw[S.mroIn,xmro_type])
end
section
variable{prog:Program}{w:World}{A:Around}{E:Value->Shared->Prop}{s:Shared}{K:Frag}{c:Str}{x C L:Addr}{cd:ClassData}{ox:Obj}{od:Option Obj}{name:Str}
theorem xget_entry{tk:Tok}{v:Value}{Q:Fin->Shared->Prop}(X:K.In s.heap)(I:InstAt s.heap x ox C od)(hf:findObj K C od name=some (.value v))(hq:Q (.done (.ret v)) s) :
  wpAny (model prog w) A (Builtin.«object.__getattribute__» ⟨[.ref x,.str name tk],[]⟩) Q E s:=by
 obtain⟨hh,g,d,t,os⟩:=s;have L0:=I.type (M:=model prog w);have L1:=looks_find (M:=model prog w) X I hf;unfold Builtin.«object.__getattribute__»;refine ah (ar (ah (ar ?_)));exact ah (L0.at (ah (L1.at (ar hq))))
theorem xclass_entry{tk:Tok}{Q:Fin->Shared->Prop}(S:XStd K c C L cd)(X:K.In s.heap)(I:InstAt s.heap x ox C od) (hf:findObj K C od "__class__"=some (.bind (.builtin "getset_descriptor.__get__") (.builtin "object.__class__"))) (hq:Q (.done (.ret (.ref C))) s) :
  wpAny (model prog w) A (Builtin.«object.__getattribute__» ⟨[.ref x,.str "__class__" tk],[]⟩) Q E s:=by
 obtain⟨hh,g,d,t,os⟩:=s;have L0:=I.type (M:=model prog w);have L1:=looks_find (M:=model prog w) X I hf;unfold Builtin.«object.__getattribute__»;refine ah (ar (ah (ar ?_)));refine ah (L0.at (ah (L1.at ?_)));show wpAny _ _ (holding [Value.builtin "object.__class__"] (call (.builtin "getset_descriptor.__get__") [.builtin "object.__class__",.ref x,.ref C]) >>= ret) _ _ _;refine ah (bF (wpAny_call ?_));exact class_get (s:=⟨hh,g,d,t,os⟩) (ox:=ox) (od:=od) X I (S.has ze) (ar hq)
theorem xget_by{tk:Tok}{v:Value}{fill expr:Bool}{Q:Value->Shared->Prop}(S:XStd K c C L cd)(X:K.In s.heap)(I:InstAt s.heap x ox C od)
  (he:∀(A':Around)(Q':Fin->Shared->Prop),Q' (.done (.ret v)) s->wpAny (model prog w) A' (Builtin.«object.__getattribute__» ⟨[.ref x,.str name tk],[]⟩) Q' (λ_ _=>False) s) (hh:handedIn v=true) (hq:Q v s) :
  wpAny (model prog w) A (getAttrBy (.ref x) (.str name tk) fill expr) Q E s:=by
 have FB:=F.excAttr_ValueError;have L0:=I.type (M:=model prog w);have L1:=looks_findIn (M:=model prog w) X S.ga;have L2:=looks_findIn (M:=model prog w) X S.gx;unfold getAttrBy;refine bF (ah (L0.here (ah (L1.here ?_))));have hx2:(Value.builtin "BaseException.__getattribute__" == Value.builtin "object.__getattribute__")=false:=by decide +kernel
 dsimp only;rw[hx2,Bool.and_false,if_neg (by decide)];unfold getAttrByItsOwn;refine ah ((looks_hook (mc:=.ref C) X (r:=none) S.gx).here ?_);refine ah (wpAny_attempt (bF ?_));have hx0:(expr && onTheHeap (Value.builtin "BaseException.__getattribute__"))=false:=by cases expr <;> rfl
 unfold callGetattribute boundAndCalled;rw[hx0,if_neg (by decide),FB.ga.bind];refine ah (ar (wpAny_call ?_));have hi:Looks (model prog w) s.heap (isInstance (.ref x) (.type "BaseException")) true:=L0.andThen (S.isT X _);have hkd:builtinKind "BaseException.__getattribute__"=some .slot:=by decide +kernel
 have hsp:splitId "BaseException.__getattribute__"=some ("BaseException","__getattribute__"):=by decide +kernel
 refine bX FB.ga.plain F.entry_bexc_ga (@check_slot (model prog w) _ _ s "BaseException.__getattribute__" "BaseException" "__getattribute__" (.ref x) [.str name tk] [] _ hkd hsp hi (F.args_bexc_ga (.ref x) (.str name tk)) ?_);refine bu (he _ _ ?_) (λ_ _ z=>z) λ_ _ z=>z.elim;show wpAny _ _ (handedOut v) _ _ _;rw[handedOut_of hh];exact ar hq
end
theorem cls_get(K:Frag):specialIn K (.builtin "object.__class__") "__get__"=some (some (.builtin "getset_descriptor.__get__")):=(by decide +kernel:specialIn [] (.builtin "object.__class__") "__get__"=some (some (.builtin "getset_descriptor.__get__")))
theorem cls_takes(K:Frag):takesIn K (.builtin "object.__class__")=some true:=(by decide +kernel:takesIn [] (.builtin "object.__class__")=some true)
section
variable{prog:Program}{w:World}{A:Around}{E:Value->Shared->Prop}{s:Shared}{K:Frag}{c:Str}{x C L:Addr}{cd:ClassData}{ox:Obj}{od:Option Obj}{name:Str}
theorem XStd.fclass(S:XStd K c C L cd)(od:Option Obj):findObj K C od "__class__"=some (.bind (.builtin "getset_descriptor.__get__") (.builtin "object.__class__")):=by unfold findObj;rw[S.cls,Option.bind_some,S.gc,Option.bind_some];simp[cls_get,cls_takes]
theorem xattr_class{Q:Option Value->Shared->Prop}(S:XStd K c C L cd)(X:K.In s.heap)(I:InstAt s.heap x ox C od)(hq:Q (some (.ref C)) {s with toks:=s.toks+1}) :
  wpAny (model prog w) A (getAttr? (.ref x) "__class__") Q E s:=by
 obtain⟨hh,g,d,t,os⟩:=s;unfold getAttr? getAttrBy?;refine ah (wpAny_mkText (ah (wpAny_attempt ?_)));exact xget_by (s:=⟨hh,g,d,t+1,os⟩) (ox:=ox) (od:=od) S X I (λA' Q' q=>xclass_entry (s:=⟨hh,g,d,t+1,os⟩) S X I (S.fclass od) q) rfl (ar hq)
theorem xattr_own{v:Value}{expr:Bool}{Q:Value->Shared->Prop}(S:XStd K c C L cd)(X:K.In s.heap)(I:InstAt s.heap x ox C od)(hf:findObj K C od name=some (.value v))(hv:handedIn v=true)(hq:Q v {s with toks:=s.toks+1}) :
  wpAny (model prog w) A (getAttr (.ref x) name expr) Q E s:=by
 obtain⟨hh,g,d,t,os⟩:=s;unfold getAttr;refine ah (wpAny_mkText ?_);exact xget_by (s:=⟨hh,g,d,t+1,os⟩) (ox:=ox) (od:=od) S X I (λA' Q' q=>xget_entry (s:=⟨hh,g,d,t+1,os⟩) X I hf q) hv hq
theorem kitx_exc(S:XStd K c C L cd):KitX K (.ref x) (.ref C) (λh=>∃ox od,InstAt h x ox C od) where
 ty:=λ_ _ _ ⟨_,_,I⟩=>I.type
 it:=λ_ _ X _=>by
  have hc:=S.cls;unfold clsIn at hc;split at hc
  . rename_i ho;intro A' Q' E' s' k q;unfold isType loadHead;exact ah (wpAny_loadPart (k _ _ (X _ _ ho)) (ar q))
  . cases hc
 ne:=λh tp dd its n sl X htp=>by
  refine Bool.eq_false_iff.mpr λq=>?_;have e:C=tp:=Value.ref.inj (b8.mp q);subst e;have hc:=S.cls;unfold clsIn at hc;split at hc
  . rename_i ho;have z:=(X _ _ ho).symm.trans htp;cases z
  . cases hc
 ca:=λX ⟨_,_,I⟩ k=>xattr_class S X I k
theorem XStd.fown(S:XStd K c C L cd){o:Obj}{v:Value}(hn:findIn K (.ref C) name=some none)(hl:lookIn name o=some (some v)):findObj K C (some o) name=some (.value v):=by unfold findObj;rw[S.cls,Option.bind_some,hn,Option.bind_some];simp[PySem.W.ownOf,S.dct,hl]
end
theorem clsIn_obj{K:Frag}{C:Addr}{cd:ClassData}(h:clsIn K C=some cd):∃oc odc sl,K.lookup C=some ⟨oc,odc,.cls cd,sl⟩:=by
 unfold clsIn at h;split at h
 . rename_i ho;cases h;exact⟨_,_,_,ho⟩
 . cases h
section
variable{prog:Program}{w:World}{A:Around}{E:Value->Shared->Prop}{s:Shared}{K:Frag}{c:Str}{x C L:Addr}{cd:ClassData}{ox:Obj}{od:Option Obj}{name:Str}
theorem xinit{vs:Array Value}{text:Value}{Q:Value->Shared->Prop}(S:XStd K c C L cd)(X:K.In s.heap)(I:InstAt s.heap x ox C od)(hd:ox.data=.fields vs)(hz:0<vs.size)
  (hq:∀ t,Q .none {s with heap:=(s.heap.push {cls:=.type "tuple",data:=.seq #[text] }).update x (Obj.mapFields (·.setIfInBounds 0 (.ref s.heap.objs.size))),toks:=t}) :
  wpAny (model prog w) A (call (.builtin "ValueError.__init__") [.ref x,text]) Q E s:=by
 have FB:=F.excBase_ValueError;have hi:Looks (model prog w) s.heap (isInstance (.ref x) (.type "ValueError")) true:=I.type.andThen (S.isT X _);have hx:=I.at_;obtain⟨hh,g,d,t,os⟩:=s;have hx1:=aq (h:=hh) {cls:=.type "tuple",data:=.seq #[text] } hx;have h0:vs[0]?=some vs[0]:=Array.getElem?_eq_getElem hz;have hst:=FB.noStar;refine wpAny_call (bX FB.init.plain FB.initEntry ?_);simp only[checkBuiltinCall,FB.initKind,FB.initSplit,FB.initRow];refine ah (hi.here ?_);simp only[Bool.not_true,Bool.false_eq_true,if_false];have hcl:=I.cls;obtain⟨oc,odc,sl,hK⟩:=clsIn_obj S.cls;have hC:hh.get? C=some ⟨oc,odc,.cls cd,sl⟩:=X _ _ hK
 repeat (first|(with_reducible refine aZ hx ?_;rw[hcl])|with_reducible refine aZ hC ?_|with_reducible refine(S.isT X _).here ?_|wp_step)
 rw[hd];refine ar ?_;rw[h0];refine ar (ah (wpAny_setField hx1 hd hz ?_))
 have done:∀t',wpAny (model prog w) A.in1 (ret Value.none) (λfin s'=>match fin with
   | Fin.done f=>(match (Except.ok f:Result)with
    |.ok (.ret v)=>Q v s'
    |.ok _=>False
    |.error e=>E e s')
   | Fin.again c'=>c'.quiet=true/\codeAny (model prog w) A c' (λr s'=>match r with
    |.ok (.ret v)=>Q v s'
    |.ok _=>False
    |.error e=>E e s') s') (λe s'=>E e s') ⟨(hh.push {cls:=.type "tuple",data:=.seq #[text] }).update x (Obj.mapFields (·.setIfInBounds 0 (.ref hh.objs.size))),g,d,t',os⟩:=λt'=>ar (hq t')
 split
 . exact wpAny_letGo (done _)
 . exact ar (done _)
theorem xset_open{v:Value}{Q:Unit->Shared->Prop}(S:XStd K c C L cd)(X:K.In s.heap)(I:InstAt s.heap x ox C od)(hna:findIn K (.ref C) name=some none)
  (h:∀(A':Around)(R:Fin->Shared->Prop),(∀s',Q () s'->R (.done (.ret .none)) s')->wpAny (model prog w) A' (Builtin.ObjectAttr.storeInOwnDict (.ref x) (.ref C) (.str name s.toks) name v false) R (λ_ _=>False) {s with toks:=s.toks+1}) :
  wpAny (model prog w) A (setAttr (.ref x) name v) Q E s:=by
 have SF:=PySem.F.store_ValueError;obtain⟨hh,g,d,t,os⟩:=s;have L0:=I.type (M:=model prog w);have L1:=looks_findIn (M:=model prog w) X S.sa;have L2:=looks_findIn (M:=model prog w) X hna;have Lm:Looks (model prog w) hh (mroOf (.ref C)) cd.mro:=(looks_clsIn X S.cls).andThen .now;have hi:Looks (model prog w) hh (isInstance (.ref x) (.type "object")) true:=L0.andThen (S.isT X _);unfold setAttr callSpecial? specialOf;refine ah (wpAny_mkText (ah (ah (ah (L0.at (L1.at ?_))))));dsimp only;refine bF (ah ?_);rw[SF.slot.bind];refine ar (ah (wpAny_call ?_));refine bX SF.slot.plain SF.entry (@check_slot (model prog w) _ _ ⟨hh,g,d,t+1,os⟩ "object.__setattr__" "object" "__setattr__" (.ref x) [.str name t,v] [] _ SF.kind SF.split hi (SF.args (.ref x) (.str name t) v) ?_);show wpAny _ _ (Builtin.«object.__setattr__» ⟨[.ref x,.str name t,v],[]⟩) _ _ _;rw[osa_eq,refuse_eq];refine ah (ah (L0.at (ah (Lm.at ?_))));rw[S.mro];have em:xMro C L=[.ref C,.ref L,.type "ValueError",.type "Exception",.type "BaseException",.type "object"]∨xMro C L=[.ref L,.type "ValueError",.type "Exception",.type "BaseException",.type "object"]:=(xMro_or C L).imp id And.left;rcases em with e|e
 all_goals
  rw[e]
  first|rw[refuseLoop_ref,refuseLoop_ref,SF.passes] | rw[refuseLoop_ref,SF.passes]
  refine ar (ah (L0.at (ah (L2.at (ah (ar ?_))))));dsimp only;refine bu (h _ _ λs' q=>?_) (λ_ _ z=>z) λ_ _ z=>z.elim;exact ar (ar q)
theorem xset_new{v:Value}{Q:Unit->Shared->Prop}(S:XStd K c C L cd)(X:K.In s.heap)(I:InstAt s.heap x ox C od)(hdn:ox.dict=none)(hna:findIn K (.ref C) name=some none)
  (hq:∀h' tk,h'.get? x=some {ox with dict:=some s.heap.objs.size}->h'.Ns1 s.heap.objs.size (λy=>if y=name then some v else none)->(∀b o,b≠x->s.heap.get? b=some o->h'.get? b=some o)->Q () {s with heap:=h',toks:=tk}) :
  wpAny (model prog w) A (setAttr (.ref x) name v) Q E s:=by
 refine xset_open S X I hna λA' R k=>?_;obtain⟨hh,g,d,t,os⟩:=s;have hx:=I.at_;have hcl:=I.cls;have hno:=I.no;have Lc:=looks_clsIn (M:=model prog w) X S.cls;have hxs:x≠hh.objs.size:=aR (au hx);unfold Builtin.ObjectAttr.storeInOwnDict;refine ah (ar ?_);rw[if_neg (by show ¬ ((Value.ref C == Value.type "module")=true); exact λz=>by cases z)];refine ah ?_;show wpAny _ _ (instanceDict x true) _ _ _;unfold instanceDict;refine ah (aZ hx ?_);rw[hcl];dsimp only;refine ah (Lc.at ?_);rw[S.dct];simp only[Bool.not_true,Bool.false_eq_true,if_false];rw[hdn];dsimp only;rw[if_neg (by simp[typeHasDict])]
 have go:∀(Q':Option Addr->Shared->Prop),(∀ h1,h1.get? x=some {ox with dict:=some hh.objs.size}->h1.get? hh.objs.size=some {cls:=.type "dict",data:=.dict #[] }->(∀ b o,b≠x->hh.get? b=some o->h1.get? b=some o)->Q' (some hh.objs.size) ⟨h1,g,d,t+1,os⟩) ->
   wpAny (model prog w) A' (do
    let d <- alloc {cls:=.type "dict",data:=.dict #[] }
    update x λo=>{o with dict:=some d}
    dictMade (.ref C) x d) Q' (λ_ _=>False) ⟨hh,g,d,t+1,os⟩:=λQ' q=>by
  have hx1:(hh.push {cls:=.type "dict",data:=.dict #[] }).get? x=some ox:=aq _ hx;refine ah (wpAny_alloc' ?_);refine ah (wpAny_update' hx1 ?_);refine ar (q _ ?_ ?_ λb o hb e=>?_)
  .
   refine bz _ hx1 ?_;have fr:=(Heap.get?_some_iff.mp hx).2;obtain⟨c0,d0,dt,s0⟩:=ox
   cases dt<;>first|rfl|exact fr
  . exact(Heap.get?_update_ne _ _ _ _ hxs.symm).trans (Heap.get?_push_at rfl rfl)
  . exact(Heap.get?_update_ne _ _ _ _ hb).trans (aq _ e)
 have fin:∀ h1,h1.get? x=some {ox with dict:=some hh.objs.size}->h1.get? hh.objs.size=some {cls:=.type "dict",data:=.dict #[] }->(∀ b o,b≠x->hh.get? b=some o->h1.get? b=some o) ->
   wpAny (model prog w) A' (Builtin.ObjectAttr.storeInDict hh.objs.size (.str name t) name v) R (λ_ _=>False) ⟨h1,g,d,t+1,os⟩:=λh1 e1 e2 e3=>by
  have n0:h1.Ns hh.objs.size (λ_=>none):=⟨_,#[],_,e2,rfl,λe he=>absurd he zY,λ_=>rfl⟩;unfold Builtin.ObjectAttr.storeInDict Builtin.ObjectAttr.newKeyGuard;refine ah (ar (ah (wpAny_nsSet1 (Heap.Ns1.of_empty n0) λh2 n2 hs=>?_)));obtain⟨oD,esD,epD,hoD,hdD,hcD⟩:=n2.count (Within.cons name v Within.nil);refine ah (wpAny_lookBehind hoD (by rw[hdD];exact pastItsLine_dict (aG hcD (by rw[aX,List.length_nil,sizeLine_eq];omega))) ?_);refine ar (k _ (hq h2 _ ((hs.2 x hxs).trans e1) n2 λb o hb e=>(hs.2 b (aR (au e))).trans (e3 b o hb e)))
 split
 . rename_i q;rw[notCls,q]at hno;cases hno
 . exact go _ fin
theorem xset_old{v:Value}{Q:Unit->Shared->Prop}{dx:Addr}{mA:Str->Option Value}{ns:List Str}(S:XStd K c C L cd)(X:K.In s.heap)(I:InstAt s.heap x ox C od)(hdx:ox.dict=some dx)(hN:s.heap.Ns1 dx mA)(hw:PySem.Within mA ns)(hz:ns.length<=1000)(hna:findIn K (.ref C) name=some none)
  (hq:∀h' tk,h'.Ns1 dx (λy=>if y=name then some v else mA y)->Heap.SameBut dx s.heap h'->Q () {s with heap:=h',toks:=tk}) :
  wpAny (model prog w) A (setAttr (.ref x) name v) Q E s:=by
 refine xset_open S X I hna λA' R k=>?_;obtain⟨hh,g,d,t,os⟩:=s;have hx:=I.at_;have hcl:=I.cls;have Lc:=looks_clsIn (M:=model prog w) X S.cls;unfold Builtin.ObjectAttr.storeInOwnDict;refine ah (ar ?_);rw[if_neg (by show ¬ ((Value.ref C == Value.type "module")=true); exact λz=>by cases z)];refine ah ?_;show wpAny _ _ (instanceDict x true) _ _ _;unfold instanceDict;refine ah (aZ hx ?_);rw[hcl];dsimp only;refine ah (Lc.at ?_);rw[S.dct];simp only[Bool.not_true,Bool.false_eq_true,if_false];rw[hdx];refine ar ?_;show wpAny _ _ (Builtin.ObjectAttr.storeInDict dx (.str name t) name v) _ _ _;unfold Builtin.ObjectAttr.storeInDict Builtin.ObjectAttr.newKeyGuard;refine ah (ar (ah (wpAny_nsSet1 hN λh2 n2 hs=>?_)));obtain⟨oD,esD,epD,hoD,hdD,hcD⟩:=n2.count (Within.cons name v hw);refine ah (wpAny_lookBehind hoD (by rw[hdD];exact pastItsLine_dict (aG hcD (by rw[aX,sizeLine_eq];omega))) ?_);exact ar (k _ (hq h2 _ n2 hs))
end
end L2
namespace L2
open PySem PySem.Spec PyProof.Rows
section
variable{X:Cx}{ae:List (Addr×Obj)}{σ:St}{H:Hp}{s:Shared}
theorem Inv.reword{a:Addr}{u w:HO}(I:Inv X ae σ H s)(h:H a=some u)(hu:¬Pers u)(hw:∀y,u≠.own y)(nw:ObjOk X.prog X.w H s.heap a w)(hw2:∀C dx fs,w≠.ins C dx fs):Inv X ae σ (upd H a w) s:=by
 have ne:∀b,H b=none->b≠a:=λb n e=>by subst e;rw[h]at n;cases n
 have nt:∀b xs,H b=some (.tup xs)->b≠a:=λb xs n e=>by subst e;rw[h]at n;cases n;exact hu True.intro
 have nf:∀b o z,H b=some (.frz o z)->b≠a:=λb o z n e=>by subst e;rw[h]at n;cases n;exact hu True.intro
 have no:∀b z,H b=some (.own z)->b≠a:=λb z n e=>by subst e;rw[h]at n;cases n;exact hw _ rfl
 refine⟨I.ok,I.os,I.bare,⟨I.base.keep,I.base.slot,λb ob e n hx=>?_,I.base.there,λb xs e=>?_,λb ob z e=>?_,λb ps e=>?_⟩,I.loc,I.cell,?_,λx c e=>?_,λp hp=>?_,λb z e=>?_,I.len⟩
 . have q:=I.base.free b ob e n hx;rw[upd_ne (ne b q)];exact q
 . have q:=I.base.tups b xs e;rw[upd_ne (nt b xs q)];exact q
 . have q:=I.base.frzs b ob z e;rw[upd_ne (nf b ob z q)];exact q
 . have q:=I.base.tbls b ps e;rw[upd_ne (λz=>by subst z;rw[h]at q;cases q;exact hu True.intro)];exact q
 . rw[upd_ne (ne _ I.free)];exact I.free
 .
  rcases I.freeC x c e with z|⟨hf,o,z⟩
  . exact .inl (by rw[upd_ne (ne _ z)];exact z)
  . exact .inr ⟨hf,o,by rw[upd_ne (nf _ _ _ z)];exact z⟩
 . obtain⟨e,n,r⟩:=I.pin p hp;exact⟨e,by rw[upd_ne (ne _ n)];exact n,r⟩
 .
  by_cases hb:b=a
  . subst hb;rw[upd_same]at e;cases e;exact nw.stay (λc v _ q=>q) (λc q=>by rw[upd_ne (no c _ q)];exact q) (λc xs q=>by rw[upd_ne (nt c xs q)];exact q) λc ob _ _ q=>by rw[upd_ne (nf c ob _ q)];exact q
  . rw[upd_ne hb]at e;exact(I.hok b z e).stay (λc v _ q=>q) (λc q=>by rw[upd_ne (no c _ q)];exact q) (λc xs q=>by rw[upd_ne (nt c xs q)];exact q) λc ob _ _ q=>by rw[upd_ne (nf c ob _ q)];exact q
theorem Inv.freezeL{a:Addr}{xs:List V}(I:Inv X ae σ H s)(h:H a=some (.lst xs)):∃o,Inv X ae σ (upd H a (.frz o (.lst xs))) s:=by obtain⟨z,its,n,r,e⟩:=id (I.hok a _ h);exact⟨_,I.reword h (λq=>q) (λ_ q=>nomatch q) ⟨e,z,its,n,r,e⟩ (λ_ _ _ q=>nomatch q)⟩
end
section
variable{K:PySem.W.Frag}{Pr H:Hp}{σ:St}{Z:Ev}
theorem REnv.new(E:REnv K Pr H σ Z){p:Addr}{o:HO}(h:H p=none):REnv K Pr (upd H p o) σ Z:=by
 have k:∀b u,H b=some u->upd H p o b=some u:=λb u e=>by rw[upd_ne (ne_of_none e h)];exact e
 exact⟨λb u e=>k b u (E.sub b u e),E.nd,E.off,Paired.impMem E.sl λl hl s q=>q.pres (λb u _ e=>k b u e) l λa e=>by
  obtain⟨vs,e,_⟩:=E.at_own (mem_owns.mpr ⟨l,hl,e⟩)
  rw[k _ _ e,e]⟩
theorem Reps.new{vs:List V}{ds:List D}(r:Reps K H vs ds){p:Addr}{o:HO}(h:H p=none):Reps K (upd H p o) vs ds:=r.pres λb u _ e=>by rw[upd_ne (ne_of_none e h)];exact e
theorem owns_cons_un:owns (.un::Z)=owns Z:=rfl
theorem owns_cons_own{a:Addr}{xs:List D}:owns (.own a xs::Z)=a::owns Z:=rfl
theorem REnv.cons_d(E:REnv K Pr H σ Z){v:V}{x:D}(r:Rep K H v x):REnv K Pr H (some v::σ) (.d x::Z):=⟨E.sub,E.nd,E.off,.cons ⟨v,rfl,r⟩ E.sl⟩
theorem REnv.cons_un(E:REnv K Pr H σ Z){v:Option V}:REnv K Pr H (v::σ) (.un::Z):=⟨E.sub,E.nd,E.off,.cons True.intro E.sl⟩
theorem REnv.cons_own(E:REnv K Pr H σ Z){p:Addr}{vs:List V}{xs:List D}(h:H p=none)(r:Reps K H vs xs):REnv K Pr (upd H p (.lst vs)) (some (.ref p)::σ) (.own p xs::Z):=by
 have E':=E.new (o:=.lst vs) h;refine⟨E'.sub,?_,λa ha=>?_,.cons ⟨rfl,vs,upd_same,r.new h⟩ E'.sl⟩
 . rw[owns_cons_own];refine aP.mpr ⟨λhm=>?_,E.nd⟩;obtain⟨us,e,_⟩:=E.at_own hm;rw[h]at e;cases e
 .
  rw[owns_cons_own]at ha;rcases aD.mp ha with rfl|ha
  .
   cases q:Pr a with
   |none=>rfl
   |some u=>rw[E.sub a u q]at h;cases h
  . exact E.off a ha
theorem REnv.cons_tup(E:REnv K Pr H σ Z){p:Addr}{vs:List V}{xs:List D}(h:H p=none)(r:Reps K H vs xs):REnv K Pr (upd H p (.tup vs)) (some (.ref p)::σ) (.d (.tup xs)::Z) :=
 (E.new h).cons_d (.tup (SqT.of upd_same) (r.new h))
theorem REnv.freeze(E:REnv K Pr H σ (.own a xs::Z)){vs:List V}(h:H a=some (.lst vs))(o:Obj):REnv K Pr (upd H a (.frz o (.lst vs))) σ (.d (.lst xs)::Z):=by
 have pa:Pr a=none:=E.off a (by rw[owns_cons_own];exact ao);have nd:=E.nd;rw[owns_cons_own]at nd;obtain⟨hn,nd⟩:=aP.mp nd;have p:Pres H (upd H a (.frz o (.lst vs))):=λb u pu e=>by rw[upd_ne];exact e;rintro rfl;rw[h]at e;cases e;exact pu
 refine⟨λb u e=>?_,nd,λb hb=>E.off b (by rw[owns_cons_own];exact ai _ hb),?_⟩
 . rw[upd_ne];exact E.sub b u e;rintro rfl;rw[pa]at e;cases e
 .
  have sl:=E.sl
  cases sl with
  | cons q t =>
   obtain⟨e,us,e2,r⟩:=q;rw[h]at e2;cases e2;refine .cons ⟨.ref a,e,.lst (.inl ⟨o,upd_same⟩) (r.pres p)⟩ (Paired.impMem t λl hl s z=>z.pres p l λb hbm=>?_);rw[upd_ne];rintro rfl;exact hn (mem_owns.mpr ⟨l,hl,hbm⟩)
theorem owns_cons(l:L)(Z:Ev):owns (l::Z)=ownsL l++owns Z:=rfl
theorem owns_takeL{k:L}:∀{Z:Ev}{i:Nat}{l:L},Z[i]?=some k->ownsL l=[]->(owns Z).Perm (ownsL k++owns (Z.set i l))
 |[],_,_,h,_=>by simp at h
 | _::Z,0,l,h,hl=>by simp at h;subst h;show(owns (_::Z)).Perm (_++owns (l::Z));rw[owns_cons,owns_cons,hl];exact List.Perm.refl _
 | m::Z,i+1,l,h,hl=>by have ih:=owns_takeL (i:=i) (Z:=Z) (l:=l) (by simpa using h) hl;show(owns (m::Z)).Perm (ownsL k++owns (m::Z.set i l));rw[owns_cons,owns_cons];refine(List.Perm.append_left _ ih).trans ?_;rw[<- bg,<- bg];exact List.Perm.append_right _ a9
theorem owns_take{a:Addr}{xs:List D}{Z:Ev}{i:Nat}{l:L}(h:Z[i]?=some (.own a xs))(hl:ownsL l=[]):(owns Z).Perm (a::owns (Z.set i l)):=owns_takeL h hl
theorem owns_put{Z:Ev}{i:Nat}(l:L)(h:Z[i]?=some .un):(owns (Z.set i l)).Perm (ownsL l++owns Z):=by
 have hi:i<Z.length:=(ak.mp h).1;have pm:=owns_takeL (Z:=Z.set i l) (i:=i) (k:=l) (l:=.un) (by simp[hi]) rfl;rw[bM]at pm;have e2:Z.set i .un=Z:=by have:=List.set_getElem_self (as:=Z) (i:=i) hi;have e3:Z[i]=.un:=(ak.mp h).2;rw[e3]at this;exact this
 rw[e2]at pm;exact pm
theorem REnv.outL(E:REnv K Pr H σ Z){i:Nat}{k:L}{s:Option V}(h:Z[i]?=some k)(hs:σ[i]?=some s):REnv K Pr H (s::σ) (k::Z.set i .un):=by have pm:=owns_takeL (l:=.un) h rfl;obtain⟨s',hs',q⟩:=Paired.get2 E.sl h;rw[hs]at hs';cases hs';refine⟨E.sub,?_,λb hb=>E.off b (pm.mem_iff.mpr (by rw[owns_cons]at hb;exact hb)),.cons q (Paired.set_r i E.sl λ_ _=>by simp only[Slot1])⟩;rw[owns_cons];exact pm.nodup_iff.mp E.nd
theorem REnv.out(E:REnv K Pr H σ Z){i:Nat}{a:Addr}{xs:List D}(h:Z[i]?=some (.own a xs)):REnv K Pr H (some (.ref a)::σ) (.own a xs::Z.set i .un):=by
 have pm:=owns_take (l:=.un) h rfl;obtain⟨s,hs,q⟩:=Paired.get2 E.sl h;refine⟨E.sub,?_,λb hb=>E.off b (pm.mem_iff.mpr (by rw[owns_cons_own]at hb;exact hb)),.cons ?_ (Paired.set_r i E.sl λ_ _=>by simp only[Slot1])⟩
 . rw[owns_cons_own];exact pm.nodup_iff.mp E.nd
 . obtain⟨_,r⟩:=q;exact⟨rfl,r⟩
theorem REnv.back{v:Option V}{l:L}(E:REnv K Pr H (v::σ) (l::Z)){i:Nat}(h:Z[i]?=some .un)(hs:σ[i]?=some v):REnv K Pr H σ (Z.set i l):=by
 have sl:=E.sl
 cases sl with
 | cons q t =>
  have e1:Z.set i l=(Z.set i l):=rfl;refine⟨E.sub,?_,λb hb=>?_,Paired.set_r i t λa e=>by rw[hs]at e;cases e;exact q⟩
  . exact(owns_put l h).nodup_iff.mpr E.nd
  . exact E.off b ((owns_put l h).mem_iff.mp hb)
theorem REnv.write(E:REnv K Pr H σ (.own a xs::Z)){vs:List V}{ys:List D}(r:Reps K H vs ys):REnv K Pr (upd H a (.lst vs)) σ (.own a ys::Z):=by
 have pa:Pr a=none:=E.off a (by rw[owns_cons_own];exact ao);have nd:=E.nd;rw[owns_cons_own]at nd;obtain⟨hn,nd'⟩:=aP.mp nd;obtain⟨us,ha,mu⟩:=E.at_own (a:=a) (by rw[owns_cons_own];exact ao);have p:Pres H (upd H a (.lst vs)):=λb u pu e=>by rw[upd_ne];exact e;rintro rfl;rw[ha]at e;cases e;exact mu.no pu
 refine⟨λb u e=>?_,nd,λb hb=>E.off b hb,?_⟩
 . rw[upd_ne];exact E.sub b u e;rintro rfl;rw[pa]at e;cases e
 .
  have sl:=E.sl
  cases sl with
  | cons q t =>
   obtain⟨e,_⟩:=q;refine .cons ⟨e,vs,upd_same,r.pres p⟩ (Paired.impMem t λl hl s z=>z.pres p l λb hbm=>?_);rw[upd_ne];rintro rfl;exact hn (mem_owns.mpr ⟨l,hl,hbm⟩)
end
noncomputable abbrev W(α:Type):=Ev->(α->Ev->Prop)->Prop
inductive Fl where
 |nx|bk|ct|rt (r:L)
def EL(X:Cx)(ae:List (Addr×Obj))(σ:St)(Pr:Hp)(ag:L->Ev->Prop)(u:Value)(s':Shared):Prop :=
 ∃v H' r Z',Inv X ae σ H' s'/\RelV v u/\REnv X.K Pr H' (some v::σ) (r::Z')/\ag r Z'
def PL(X:Cx)(e:Expr)(t:W L):Prop :=
 ∀(ae:List (Addr×Obj))(s:Shared)(σ:St)(H Pr:Hp)(Z:Ev)(ag:L->Ev->Prop),Inv X ae σ H s->REnv X.K Pr H σ Z->t Z ag->wpAny (model X.prog X.w) X.A (eval e X.env) (EL X ae σ Pr ag) X.xe s
def EB(X:Cx)(ae:List (Addr×Obj))(σ:St)(Pr:Hp)(ag:Bool->Ev->Prop)(b:Bool)(s':Shared):Prop :=
 ∃H' Z',Inv X ae σ H' s'/\REnv X.K Pr H' σ Z'/\ag b Z'
def PB(X:Cx)(e:Expr)(t:W Bool):Prop :=
 ∀(ae:List (Addr×Obj))(s:Shared)(σ:St)(H Pr:Hp)(Z:Ev)(ag:Bool->Ev->Prop),Inv X ae σ H s->REnv X.K Pr H σ Z->t Z ag->wpAny (model X.prog X.w) X.A (isTrue e X.env (eval e X.env)) (EB X ae σ Pr ag) X.xe s
def EA(X:Cx)(ae:List (Addr×Obj))(σ:St)(Pr:Hp)(bs:List (Option Nat))(ag:List L->Ev->Prop)(us:List Value)(s':Shared):Prop :=
 ∃vs H' ls Z',Inv X ae σ H' s'/\Vals vs us/\vs.length=ls.length/\vs.length=bs.length/\REnv X.K Pr H' (vs.map some++σ) (ls++Z')/\(∀(k i:Nat),bs[k]?=some (some i)->ls[k]?=some L.un/\∃v,vs[k]?=some v/\σ[i]?=some (some v))/\ag ls Z'
def PAL(X:Cx)(es:List Expr)(bs:List (Option Nat))(t:W (List L)):Prop :=
 ∀(pos:Pos)(ae:List (Addr×Obj))(s:Shared)(σ:St)(H Pr:Hp)(Z:Ev)(ag:List L->Ev->Prop),Inv X ae σ H s->REnv X.K Pr H σ Z->t Z ag ->
  wpAny (model X.prog X.w) X.A (spliced (backTo pos (starEach es X.env))) (EA X ae σ Pr bs ag) X.xe s
def SM(X:Cx)(ae:List (Addr×Obj))(Pr:Hp)(ag:Fl->Ev->Prop)(f:Flow)(s':Shared):Prop :=
 match f with
 |.next=>∃σ' H' Z',Inv X ae σ' H' s'/\REnv X.K Pr H' σ' Z'/\ag .nx Z'
 |.brk=>∃σ' H' Z',Inv X ae σ' H' s'/\REnv X.K Pr H' σ' Z'/\ag .bk Z'
 |.cont=>∃σ' H' Z',Inv X ae σ' H' s'/\REnv X.K Pr H' σ' Z'/\ag .ct Z'
 |.ret u=>∃v σ' H' r Z' τ,Inv X ae σ' H' s'/\RelV v u/\REnv X.K Pr H' (some v::τ) (r::Z')/\ag (.rt r) Z'
def PM(X:Cx)(st:Stmt)(t:W Fl):Prop :=
 ∀(ae:List (Addr×Obj))(s:Shared)(σ:St)(H Pr:Hp)(Z:Ev)(ag:Fl->Ev->Prop),Inv X ae σ H s->REnv X.K Pr H σ Z->t Z ag->wpAny (model X.prog X.w) X.A (exec st X.env) (SM X ae Pr ag) X.xe s
def PMs(X:Cx)(st:List Stmt)(t:W Fl):Prop :=
 ∀(ae:List (Addr×Obj))(s:Shared)(σ:St)(H Pr:Hp)(Z:Ev)(ag:Fl->Ev->Prop),Inv X ae σ H s->REnv X.K Pr H σ Z->t Z ag->wpAny (model X.prog X.w) X.A (execs st X.env) (SM X ae Pr ag) X.xe s
section
variable{X:Cx}{e a b:Expr}{pos:Pos}{ta tb:W L}
theorem PL.of{t:TE}{u:W L}(h:PE X e t)(q:∀σ H Pr Z ag,REnv X.K Pr H σ Z->u Z ag->t σ H λv H'=>∃r Z',REnv X.K Pr H' (some v::σ) (r::Z')/\ag r Z'):PL X e u :=
 λae s σ H Pr Z ag I E hu=>thn (h ae s σ H _ I (q σ H Pr Z ag E hu)) λu s1 ⟨v,H1,I1,r1,r,Z',E1,p⟩=>⟨v,H1,r,Z',I1,r1,E1,p⟩
mutual
noncomputable def eraseL:L->Option D
 |.un=>none
 |.d x=>some x
 |.own _ xs=>some (.lst xs)
 |.bx none ls=>(eraseLs ls).map .tup
 |.bx (some _) ls=>(eraseLs ls).map .lst
 |.dic _ _=>none
noncomputable def eraseLs:List L->Option (List D)
 |[]=>some []
 | l::ls=>match eraseL l,eraseLs ls with
  |some x,some xs=>some (x::xs)
  |_,_=>none
end
def isSome':Option D->(D->Prop)->Prop
 |some x,k=>k x
 |none,_=>False
theorem isSome'_is{o:Option D}{k:D->Prop}(h:isSome' o k):∃x,o=some x/\k x:=by
 cases o with
 |some x=>exact⟨x,rfl,h⟩
 |none=>exact h.elim
def toDB(a:Option Addr)(ls:List L)(k:D->Prop):Prop:=isSome' (eraseL (.bx a ls)) k
def toD:L->(D->Prop)->Prop
 |.un,_=>False
 |.d x,k=>k x
 |.own _ xs,k=>k (.lst xs)
 |.bx a ls,k=>toDB a ls k
 |.dic _ _,_=>False
theorem toDB_is{a:Option Addr}{ls:List L}{k:D->Prop}(h:toDB a ls k):∃x,eraseL (.bx a ls)=some x/\k x:=isSome'_is h
def eraK(ls:List L)(k:List D->Prop):Prop:=∃xs,eraseLs ls=some xs/\k xs
theorem toDB_t(ls:List L)(k:D->Prop):toDB none ls k=eraK ls λxs=>k (.tup xs):=by
 unfold toDB eraK;simp only[eraseL]
 cases eraseLs ls with
 |none=>simp[isSome']
 |some xs=>simp[isSome']
theorem toDB_o(a:Addr)(ls:List L)(k:D->Prop):toDB (some a) ls k=eraK ls λxs=>k (.lst xs):=by
 unfold toDB eraK;simp only[eraseL]
 cases eraseLs ls with
 |none=>simp[isSome']
 |some xs=>simp[isSome']
theorem eraK_nil(k:List D->Prop):eraK [] k=k []:=by unfold eraK;simp[eraseLs]
theorem toD_era(l:L)(k:D->Prop):toD l k=∃x,eraseL l=some x/\k x:=by
 cases l with
 |un=>simp[toD,eraseL]
 |d x=>simp[toD,eraseL]
 |own a xs=>simp[toD,eraseL]
 | bx a ls =>
  show isSome' _ k=_
  cases eraseL (.bx a ls)with
  |none=>simp[isSome']
  |some x=>simp[isSome']
 |dic a kvs=>simp[toD,eraseL]
theorem eraK_cons(l:L)(ls:List L)(k:List D->Prop):eraK (l::ls) k=toD l λx=>eraK ls λxs=>k (x::xs):=by
 rw[toD_era];unfold eraK;simp only[eraseLs]
 cases eraseL l with
 |none=>simp
 | some x =>
  cases eraseLs ls with
  |none=>simp
  |some xs=>simp
theorem slots_paired{K:PySem.W.Frag}{H:Hp}:∀{vs:List V}{ls:List L},Slots K H vs ls↔Paired (Slot1 K H) (vs.map some) ls
 |[],[]=>⟨λ_=>.nil,λ_=>by simp only[Slots]⟩
 | v::vs,l::ls=>by
  simp only[Slots,a8];constructor
  . rintro⟨w,us,e,h1,h2⟩;cases e;exact .cons h1 (slots_paired.mp h2)
  .
   intro h
   cases h with
   |cons q t=>exact⟨v,vs,rfl,q,slots_paired.mpr t⟩
 | [],l::ls=>by
  simp only[Slots,List.map_nil];constructor
  . rintro⟨w,us,e,_⟩;cases e
  . intro h;cases h
 | v::vs,[]=>by
  simp only[Slots,a8];constructor
  . intro h;cases h
  . intro h;cases h
theorem reps_at{K:PySem.W.Frag}{H:Hp}:∀{vs:List V}{xs:List D},Paired (Slot1 K H) (vs.map some) (xs.map .d)->Reps K H vs xs
 |[],[],_=>.nil
 | v::vs,x::xs,h=>by
  simp only[a8]at h
  cases h with
  | cons q t =>
   simp only[Slot1]at q;obtain⟨w,e,r⟩:=q;cases e;exact .cons r (reps_at t)
 |[],_::_,h=>by simp only[a8,List.map_nil]at h;cases h
 |_::_,[],h=>by simp only[a8,List.map_nil]at h;cases h
theorem Slots.len{K:PySem.W.Frag}{H:Hp}{vs:List V}{ls:List L}(h:Slots K H vs ls):vs.length=ls.length:=by have:=Paired.length (slots_paired.mp h);simpa using this
theorem eraseLs_len:∀{ls:List L}{xs:List D},eraseLs ls=some xs->xs.length=ls.length
 |[],_,h=>by simp[eraseLs]at h;subst h;rfl
 | l::ls,xs,h=>by
  simp only[eraseLs]at h;split at h
  . rename_i x ys h1 h2;cases h;simp[eraseLs_len h2]
  . cases h
theorem REnv.openT{K:PySem.W.Frag}{Pr H:Hp}{σ:St}{Z:Ev}{v:Option V}{ls:List L}(E:REnv K Pr H (v::σ) (.bx none ls::Z)):∃a vs,v=some (.ref a)/\SqT K H a vs/\vs.length=ls.length/\REnv K Pr H (vs.map some++σ) (ls++Z):=by
 have sl:=E.sl
 cases sl with
 | cons q t =>
  simp only[Slot1]at q;obtain⟨a,vs,e,h,r⟩:=q;have ow:owns (.bx none ls::Z)=owns (ls++Z):=by rw[owns_cons,owns_append];simp only[ownsL,Option.toList,List.nil_append,ownsLs_eq]
  exact⟨a,vs,e,h,r.len,E.sub,by rw[<- ow];exact E.nd,λb hb=>E.off b (by rw[ow];exact hb),Paired.app (slots_paired.mp r) t⟩
theorem REnv.openO{K:PySem.W.Frag}{Pr H:Hp}{σ:St}{Z:Ev}{v:Option V}{a:Addr}{ls:List L}(E:REnv K Pr H (v::σ) (.bx (some a) ls::Z)):∃vs,v=some (.ref a)/\H a=some (.lst vs)/\vs.length=ls.length/\a∉owns (ls++Z)/\Pr a=none/\REnv K Pr H (vs.map some++σ) (ls++Z):=by
 have sl:=E.sl
 cases sl with
 | cons q t =>
  simp only[Slot1]at q;obtain⟨e,vs,h,r⟩:=q;have ow:owns (.bx (some a) ls::Z)=a::owns (ls++Z):=by rw[owns_cons,owns_append];simp only[ownsL,Option.toList,List.cons_append,List.nil_append,ownsLs_eq]
  have nd:=E.nd;rw[ow]at nd;obtain⟨n1,n2⟩:=aP.mp nd;exact⟨vs,e,h,r.len,n1,E.off a (by rw[ow];exact ao),E.sub,n2,λb hb=>E.off b (by rw[ow];exact ai _ hb),Paired.app (slots_paired.mp r) t⟩
theorem owns_ds(xs:List D):owns (xs.map .d)=[]:=by
 induction xs with
 |nil=>rfl
 |cons x xs ih=>rw[a8,owns_cons,ih];rfl
def Frozen(H H':Hp)(S:List Addr):Prop:=Pres H H'/\(∀b,b∉S->H' b=H b)/\∀a∈S,∀vs,H a=some (.lst vs)->∃o,H' a=some (.frz o (.lst vs))
theorem Frozen.refl(H:Hp):Frozen H H []:=⟨λ_ _ _ e=>e,λ_ _=>rfl,λ_ h=>by simp at h⟩
mutual
theorem frzL:∀(l:L){ae:List (Addr×Obj)}{σ0:St}{s:Shared}{Pr H:Hp}{σ:St}{Z:Ev}{v:Option V}{x:D},Inv X ae σ0 H s->REnv X.K Pr H (v::σ) (l::Z)->eraseL l=some x->∃H',Inv X ae σ0 H' s/\REnv X.K Pr H' (v::σ) (.d x::Z)/\Frozen H H' (ownsL l)
 |.un,_,_,_,_,_,_,_,_,_,_,_,h=>by simp[eraseL]at h
 |.dic _ _,_,_,_,_,_,_,_,_,_,_,_,h=>by simp[eraseL]at h
 | .d y,_,_,_,_,_,_,_,_,_,I,E,h=>by
  simp only[eraseL,aI]at h
  subst h
  exact⟨_,I,E,Frozen.refl _⟩
 | .own a xs,_,_,_,_,H,σ,Z,v,_,I,E,h=>by
  simp only[eraseL,aI]at h
  subst h
  have sl:=E.sl
  cases sl with
  | cons q t =>
   simp only[Slot1]at q
   obtain⟨e0,vs,ha,r⟩:=q
   obtain⟨o,I'⟩:=I.freezeL ha
   refine⟨_,I',E.freeze ha o,λb u pu eb=>?_,λb hb=>?_,λb hb vs' eb=>?_⟩
   .
    rw[upd_ne];exact eb
    rintro rfl
    rw[ha]at eb;cases eb;exact pu
   .
    rw[upd_ne]
    rintro rfl
    exact hb (by simp[ownsL])
   .
    have e:b=a:=by simpa[ownsL]using hb
    subst e
    rw[ha]at eb;cases eb
    exact⟨o,upd_same⟩
 | .bx none ls,_,_,_,Pr,H,σ,Z,v,x,I,E,h=>by
  simp only[eraseL,Option.map_eq_some_iff]at h
  obtain⟨xs,h,rfl⟩:=h
  obtain⟨a,vs,rfl,ha,hl,E1⟩:=E.openT
  obtain⟨H',I',E',F⟩:=frzLs ls hl I E1 h
  have hxl:=eraseLs_len h
  obtain⟨s1,s2⟩:=Paired.unapp (by simp[hl,hxl]) E'.sl
  refine⟨H',I',(E'.drop (by simp[hl,hxl])).cons_d (.tup (ha.pres F.1) (reps_at s1)),F.1,λb hb=>F.2.1 b ?_,λb hb=>F.2.2 b ?_⟩
  .
   simpa[ownsL,ownsLs_eq]using hb
  .
   simpa[ownsL,ownsLs_eq]using hb
 | .bx (some a) ls,_,_,_,Pr,H,σ,Z,v,x,I,E,h=>by
  simp only[eraseL,Option.map_eq_some_iff]at h
  obtain⟨xs,h,rfl⟩:=h
  obtain⟨vs,rfl,ha,hl,hn,hp,E1⟩:=E.openO
  obtain⟨H',I',E',F⟩:=frzLs ls hl I E1 h
  have hxl:=eraseLs_len h
  have hal:a∉owns ls:=λz=>hn (by rw[owns_append];exact av _ z)
  have haρ:a∉owns Z:=λz=>hn (by rw[owns_append];exact az _ z)
  have ha':H' a=some (.lst vs):=(F.2.1 a hal).trans ha
  obtain⟨s1,s2⟩:=Paired.unapp (by simp[hl,hxl]) E'.sl
  have E2:=E'.drop (by simp[hl,hxl])
  have E3:REnv X.K Pr H' (some (.ref a)::σ) (.own a xs::Z):=by
   refine⟨E2.sub,?_,λb hb=>?_,.cons ?_ E2.sl⟩
   .
    rw[owns_cons_own];exact aP.mpr ⟨haρ,E2.nd⟩
   .
    rw[owns_cons_own]at hb
    rcases aD.mp hb with z|z
    .
     rw[z];exact hp
    .
     exact E2.off b z
   .
    unfold Slot1
    exact⟨rfl,vs,ha',reps_at s1⟩
  obtain⟨o,I2⟩:=I'.freezeL ha'
  refine⟨_,I2,E3.freeze ha' o,λb u pu e=>?_,λb hb=>?_,λb hb vs' eb=>?_⟩
  .
   rw[upd_ne];exact F.1 b u pu e
   rintro rfl
   rw[ha]at e;cases e;exact pu
  .
   have hb':b≠a/\b∉owns ls:=by simpa[ownsL,ownsLs_eq,not_or]using hb
   rw[upd_ne hb'.1]
   exact F.2.1 b hb'.2
  .
   by_cases hba:b=a
   .
    subst hba
    rw[ha]at eb;cases eb
    exact⟨o,upd_same⟩
   .
    have hb':b∈owns ls:=by
     rcases(by simpa[ownsL,ownsLs_eq]using hb:b=a∨b∈owns ls)with z|z
     .
      exact absurd z hba
     .
      exact z
    rw[upd_ne hba]
    exact F.2.2 b hb' vs' eb
theorem frzLs:∀(ls:List L){ae:List (Addr×Obj)}{σ0:St}{s:Shared}{Pr H:Hp}{σ:St}{Z:Ev}{vs:List V}{xs:List D},vs.length=ls.length->Inv X ae σ0 H s->REnv X.K Pr H (vs.map some++σ) (ls++Z)->eraseLs ls=some xs->∃H',Inv X ae σ0 H' s/\REnv X.K Pr H' (vs.map some++σ) (xs.map .d++Z)/\Frozen H H' (owns ls)
 | [],_,_,_,_,_,_,_,vs,xs,hl,I,E,h=>by
  simp only[eraseLs,aI]at h
  subst h
  cases vs with
  |nil=>exact⟨_,I,E,Frozen.refl _⟩
  |cons _ _=>simp at hl
 | l::ls,_,_,_,Pr,H,σ,Z,vs,xs,hl,I,E,h=>by
  simp only[eraseLs]at h
  split at h
  rotate_left
  .
   cases h
  rename_i x ys h1 h2
  cases h
  cases vs with
  |nil=>simp at hl
  | cons v vs =>
   have hl':vs.length=ls.length:=by simpa using hl
   obtain⟨H1,I1,E1,F1⟩:=frzL l I E h1
   have E2:REnv X.K (butOwn H1 (ls++Z)) H1 (vs.map some++σ) (ls++Z):=(E1.drop (τ:=[some v]) (lam:=[.d x]) rfl).wide
   obtain⟨H2,I2,E3,F2⟩:=frzLs ls hl' I1 E2 h2
   have hyl:=eraseLs_len h2
   have E4:REnv X.K Pr H2 (some v::(vs.map some++σ)) (.d x::(ys.map .d++Z)):=by
    have z:=REnv.step (τ:=[some v]) (lam:=[.d x]) (w:=[]) (μ:=[]) (σ':=vs.map some++σ) (Z':=ys.map .d++Z) E1 rfl E3 rfl
    exact z
   refine⟨H2,I2,E4,λb u pu e=>F2.1 b u pu (F1.1 b u pu e),λb hb=>?_,λb hb vs' eb=>?_⟩
   .
    rw[owns_cons]at hb
    rw[F2.2.1 b (λz=>hb (az _ z)),F1.2.1 b (λz=>hb (av _ z))]
   .
    rw[owns_cons]at hb
    rcases aH.mp hb with z|z
    .
     obtain⟨o,eo⟩:=F1.2.2 b z vs' eb
     exact⟨o,F2.1 b _ True.intro eo⟩
    .
     have hn:b∉ownsL l:=λz'=>by
      have nd:=E.nd
      rw[List.cons_append,owns_cons,owns_append]at nd
      exact(aJ.mp nd).2.2 b z' b (av _ z) rfl
     exact F2.2.2 b z vs' ((F1.2.1 b hn).trans eb)
end
theorem EL.frz{ae:List (Addr×Obj)}{σ:St}{Pr:Hp}{ag:D->Ev->Prop}{u:Value}{s':Shared}(h:EL X ae σ Pr (λr Z=>toD r λx=>ag x Z) u s') :
  ∃v H' x Z',Inv X ae σ H' s'/\RelV v u/\REnv X.K Pr H' (some v::σ) (.d x::Z')/\ag x Z':=by
 obtain⟨v,H',r,Z',I,rv,E,p⟩:=h
 cases r with
 |un=>exact p.elim
 |d x=>exact⟨v,H',x,Z',I,rv,E,p⟩
 | own a xs =>
  obtain⟨H2,I2,E2,_⟩:=frzL (.own a xs) I E rfl;exact⟨v,H2,.lst xs,Z',I2,rv,E2,p⟩
 | bx a ls =>
  obtain⟨x,ex,p⟩:=toDB_is p;obtain⟨H2,I2,E2,_⟩:=frzL (.bx a ls) I E ex;exact⟨v,H2,x,Z',I2,rv,E2,p⟩
 |dic a kvs=>exact p.elim
def wFrz(t:W L):W L:=λZ ag=>t Z λr Z1=>toD r λx=>ag (.d x) Z1
theorem pl_frz{t:W L}(h:PL X e t):PL X e (wFrz t):=λae s σ H Pr Z ag I E ht =>
 thn (h ae s σ H Pr Z _ I E ht) λu s1 q=>by obtain⟨v,H',x,Z',I',rv,E',p⟩:=EL.frz (ag:=λx Z=>ag (.d x) Z) q;exact⟨v,H',.d x,Z',I',rv,E',p⟩
theorem REnv.head_d{K:PySem.W.Frag}{Pr H:Hp}{v:Option V}{σ:St}{x:D}{Z:Ev}(E:REnv K Pr H (v::σ) (.d x::Z)):∃w,v=some w/\Rep K H w x:=by
 have sl:=E.sl
 cases sl with
 |cons q t=>exact q
theorem REnv.tail{K:PySem.W.Frag}{Pr H:Hp}{v:Option V}{σ:St}{l:L}{Z:Ev}(E:REnv K Pr H (v::σ) (l::Z)):REnv K Pr H σ Z:=REnv.drop (τ:=[v]) (lam:=[l]) E rfl
theorem two{ae:List (Addr×Obj)}{s:Shared}{σ:St}{H Pr:Hp}{Z:Ev}{R:D->D->Ev->Prop}(ha:PL X a ta)(hb:PL X b tb)(I:Inv X ae σ H s)(E:REnv X.K Pr H σ Z)
  (h:ta Z λx Z1=>toD x λdx=>tb Z1 λy Z2=>toD y λdy=>R dx dy Z2) {α:Type} {Q:α->Shared->Prop} {f:Value->Value->Sem α}
  (hf:∀v u s2 x y H2 dx dy Z2,Inv X ae σ H2 s2->RelV x v->RelV y u->REnv X.K Pr H2 (some y::some x::σ) (.d dy::.d dx::Z2)->Rep X.K H2 x dx->Rep X.K H2 y dy->R dx dy Z2->wpAny (model X.prog X.w) X.A (f v u) Q X.xe s2) :
  wpAny (model X.prog X.w) X.A (eval a X.env) (λv s₁=>wpAny (model X.prog X.w) X.A (eval b X.env) (λu s₂=>wpAny (model X.prog X.w) X.A (f v u) Q X.xe s₂) X.xe s₁) X.xe s:=by
 refine thn (ha ae s σ H Pr Z _ I E h) λv s1 q=>?_;obtain⟨x,H1,dx,Z1,I1,r1,E1,q1⟩:=EL.frz (ag:=λdx Z1=>tb Z1 λy Z2=>toD y λdy=>R dx dy Z2) q;refine thn (hb ae s1 σ H1 _ Z1 _ I1 E1.tail.wide q1) λu s2 q=>?_;obtain⟨y,H2,dy,Z2,I2,r2,E2,q2⟩:=EL.frz (ag:=λdy Z2=>R dx dy Z2) q;have E3:REnv X.K Pr H2 (some y::some x::σ) (.d dy::.d dx::Z2):=REnv.step (τ:=[some x]) (lam:=[.d dx]) (w:=[some y]) (μ:=[.d dy]) E1 rfl E2 rfl;obtain⟨_,e1,p1⟩:=E3.head_d;obtain⟨_,e2,p2⟩:=E3.tail.head_d;cases e1;cases e2;exact hf v u s2 x y H2 dx dy Z2 I2 r1 r2 E3 p2 p1 q2
abbrev Op2:=D->D->(L->Prop)->Prop
def OpD(X:Cx)(f:Value->Value->Sem Value)(op:Op2):Prop :=
 ∀(ae:List (Addr×Obj))(s:Shared)(σ:St)(H Pr:Hp)(Z:Ev)(x y:V)(v u:Value)(dx dy:D)(ag:L->Prop),Inv X ae σ H s->RelV x v->RelV y u->REnv X.K Pr H σ Z->Rep X.K H x dx->Rep X.K H y dy->op dx dy ag ->
  wpAny (model X.prog X.w) X.A (f v u) (λw s'=>∃z H' r,Inv X ae σ H' s'/\RelV z w/\REnv X.K Pr H' (some z::σ) (r::Z)/\ag r) X.xe s
theorem OpD.of{f:Value->Value->Sem Value}{r:R2}{op:Op2}(h:OpR X f r)(q:∀σ H Pr Z x y dx dy ag,REnv X.K Pr H σ Z->Rep X.K H x dx->Rep X.K H y dy->op dx dy ag->r x y H λz H'=>∃r,REnv X.K Pr H' (some z::σ) (r::Z)/\ag r):OpD X f op :=
 λae s σ H Pr Z x y v u dx dy ag I rx ry E px py ho=>thn (h ae s σ H x y v u _ I rx ry (q σ H Pr Z x y dx dy ag E px py ho)) λw s' ⟨z,H',I',rz,r,E',p⟩=>⟨z,H',r,I',rz,E',p⟩
theorem OpD.or{f:Value->Value->Sem Value}{o1 o2:Op2}(h1:OpD X f o1)(h2:OpD X f o2):OpD X f (λx y p=>o1 x y p∨o2 x y p) :=
 λae s σ H Pr Z x y v u dx dy ag I rx ry E px py ho=>ho.elim (h1 ae s σ H Pr Z x y v u dx dy ag I rx ry E px py) (h2 ae s σ H Pr Z x y v u dx dy ag I rx ry E px py)
theorem OpD.imp{f:Value->Value->Sem Value}{o1 o2:Op2}(h1:OpD X f o1)(h:∀x y p,o2 x y p->o1 x y p):OpD X f o2 :=
 λae s σ H Pr Z x y v u dx dy ag I rx ry E px py ho=>h1 ae s σ H Pr Z x y v u dx dy ag I rx ry E px py (h _ _ _ ho)
def wBin(op:Op2)(ta tb:W L):W L:=λZ ag=>ta Z λx Z1=>toD x λdx=>tb Z1 λy Z2=>toD y λdy=>op dx dy λr=>ag r Z2
theorem pl_bin{op:Operator}{o:Op2}(ho:OpD X (binaryOp op) o)(ha:PL X a ta)(hb:PL X b tb):PL X (.BinOp a op b pos) (wBin o ta tb):=λae s σ H Pr Z ag I E h =>
 wpAny_BinOp (two (R:=λdx dy Z2=>o dx dy λr=>ag r Z2) ha hb I E h λv u s2 x y H2 dx dy Z2 I2 r1 r2 E2 p1 p2 q =>
  thn (ho ae s2 σ H2 Pr Z2 x y v u dx dy _ I2 r1 r2 E2.tail.tail p1 p2 q) λw s3 ⟨z,H3,r,I3,rz,E3,p⟩=>⟨z,H3,r,Z2,I3,rz,E3,p⟩)
theorem pl_cmp{op:CmpOp}{o:Op2}(ho:OpD X (compareOp op) o)(ha:PL X a ta)(hb:PL X b tb)(hm:behindInMarks op b=false):PL X (.Compare a [op] [b] pos) (wBin o ta tb):=λae s σ H Pr Z ag I E h =>
 wpAny_Compare1 (two (R:=λdx dy Z2=>o dx dy λr=>ag r Z2) ha hb I E h λv u s2 x y H2 dx dy Z2 I2 r1 r2 E2 p1 p2 q =>
  thn (ho ae s2 σ H2 Pr Z2 x y v u dx dy _ I2 r1 r2 E2.tail.tail p1 p2 q) λw s3 ⟨z,H3,r,I3,rz,E3,p⟩=>⟨z,H3,r,Z2,I3,rz,E3,p⟩) hm
def wC(x:D):W L:=λZ ag=>ag (.d x) Z
theorem pl_int {i j pos}:PL X (.Constant (.int i) j pos) (wC (.int i)):=PL.of pe_int λσ H Pr Z ag E h=>⟨_,_,E.cons_d (.int i),h⟩
theorem pl_bl {b j pos}:PL X (.Constant (.bool b) j pos) (wC (.bl b)):=PL.of pe_bl λσ H Pr Z ag E h=>⟨_,_,E.cons_d (.bl b),h⟩
theorem pl_non {j pos}:PL X (.Constant .none j pos) (wC .non):=PL.of pe_non λσ H Pr Z ag E h=>⟨_,_,E.cons_d .non,h⟩
theorem pl_str {x j pos}:PL X (.Constant (.str x) j pos) (wC (.str x)):=PL.of pe_str λσ H Pr Z ag E h=>⟨_,_,E.cons_d (.str x),h⟩
def varW(o:Option L)(i:Nat)(Z:Ev)(ag:L->Ev->Prop):Prop:=match o with
 |some (.d x)=>ag (.d x) Z
 |some (.own _ xs)=>ag (.d (.lst xs)) (Z.set i (.d (.lst xs)))
 |some (.bx a ls)=>toDB a ls λx=>ag (.d x) (Z.set i (.d x))
 |_=>False
def wVar(i:Nat):W L:=λZ ag=>varW Z[i]? i Z ag
theorem varW_d(x:D)(i:Nat)(Z:Ev)(ag:L->Ev->Prop):varW (some (.d x)) i Z ag=ag (.d x) Z:=(rfl)
theorem varW_own(a:Addr)(xs:List D)(i:Nat)(Z:Ev)(ag:L->Ev->Prop):varW (some (.own a xs)) i Z ag=ag (.d (.lst xs)) (Z.set i (.d (.lst xs))):=(rfl)
theorem varW_bx(a:Option Addr)(ls:List L)(i:Nat)(Z:Ev)(ag:L->Ev->Prop):varW (some (.bx a ls)) i Z ag=toDB a ls λx=>ag (.d x) (Z.set i (.d x)):=(rfl)
theorem REnv.slot{K:PySem.W.Frag}{Pr H:Hp}{σ:St}{Z:Ev}{i:Nat}{l:L}(E:REnv K Pr H σ Z)(h:Z[i]?=some l):∃s,σ[i]?=some s/\Slot1 K H s l:=Paired.get2 E.sl h
theorem pl_var(i:Nat){x:Str}{pos:Pos}(hN:X.N[i]?=some x:=by rfl)(hv:Vis X.env.scope x:=by first | exact Or.inl rfl | exact Or.inr (Or.inl rfl) | exact Or.inr (Or.inr rfl)) (hd:(x == ("__debug__" : Str))=false:=by decide)
  (hcd:(x == ("__classdict__" : Str))=false:=by decide):PL X (.Name x pos) (wVar i):=by
 intro ae s σ H Pr Z ag I E h;unfold wVar varW at h
 cases q:Z[i]? with
 |none=>rw[q]at h;exact h.elim
 | some l =>
  rw[q]at h;obtain⟨sv,hs,sl⟩:=E.slot q
  cases l with
  |un=>exact h.elim
  |dic a kvs=>exact h.elim
  | d y =>
   obtain⟨v,rfl,r⟩:=sl;exact thn (pe_var hN hv hd hcd ae s σ H (λw H'=>w=v/\H'=H) I ⟨v,hs,rfl,rfl⟩) λu s1 ⟨w,H1,I1,r1,e1,e2⟩=>by subst e1 e2;exact⟨w,H1,_,Z,I1,r1,E.cons_d r,h⟩
  | own a xs =>
   obtain⟨rfl,vs,ha,r⟩:=sl;refine thn (pe_var hN hv hd hcd ae s σ H (λw H'=>w=.ref a/\H'=H) I ⟨.ref a,hs,rfl,rfl⟩) λu s1 ⟨w,H1,I1,r1,e1,e2⟩=>?_;subst e1 e2;obtain⟨o,I2⟩:=I1.freezeL ha;have E2:=(E.out q).freeze ha o;have hi:i<Z.length:=(ak.mp q).1;have E3:=E2.back (i:=i) (by simp[hi]) hs;rw[bM]at E3;obtain⟨_,e,p⟩:=E2.head_d;cases e;exact⟨_,_,_,_,I2,r1,E3.cons_d p,h⟩
  | bx a ls =>
   obtain⟨y,ey,h⟩:=toDB_is h
   have hv':∃b,sv=some (.ref b):=by
    cases a with
    |none=>simp only[Slot1]at sl;obtain⟨b,_,e,_⟩:=sl;exact⟨b,e⟩
    |some b=>simp only[Slot1]at sl;exact⟨b,sl.1⟩
   obtain⟨b,rfl⟩:=hv';refine thn (pe_var hN hv hd hcd ae s σ H (λw H'=>w=.ref b/\H'=H) I ⟨.ref b,hs,rfl,rfl⟩) λu s1 ⟨w,H1,I1,r1,e1,e2⟩=>?_;subst e1 e2;obtain⟨H2,I2,E2,_⟩:=frzL (.bx a ls) I1 (E.outL q hs) ey;have hi:i<Z.length:=(ak.mp q).1;have E3:=E2.back (i:=i) (by simp[hi]) hs;rw[bM]at E3;obtain⟨_,e,p⟩:=E2.head_d;cases e;exact⟨_,_,_,_,I2,r1,E3.cons_d p,h⟩
def movW(o:Option L)(i:Nat)(Z:Ev)(ag:L->Ev->Prop):Prop:=match o with
 |some (.d x)=>ag (.d x) Z
 |some (.own a xs)=>ag (.own a xs) (Z.set i .un)
 |some (.bx a ls)=>ag (.bx a ls) (Z.set i .un)
 |_=>False
def wMove(i:Nat):W L:=λZ ag=>movW Z[i]? i Z ag
theorem movW_d(x:D)(i:Nat)(Z:Ev)(ag:L->Ev->Prop):movW (some (.d x)) i Z ag=ag (.d x) Z:=(rfl)
theorem movW_own(a:Addr)(xs:List D)(i:Nat)(Z:Ev)(ag:L->Ev->Prop):movW (some (.own a xs)) i Z ag=ag (.own a xs) (Z.set i .un):=(rfl)
theorem movW_bx(a:Option Addr)(ls:List L)(i:Nat)(Z:Ev)(ag:L->Ev->Prop):movW (some (.bx a ls)) i Z ag=ag (.bx a ls) (Z.set i .un):=(rfl)
theorem pl_move(i:Nat){x:Str}{pos:Pos}(hN:X.N[i]?=some x:=by rfl)(hv:Vis X.env.scope x:=by first | exact Or.inl rfl | exact Or.inr (Or.inl rfl) | exact Or.inr (Or.inr rfl)) (hd:(x == ("__debug__" : Str))=false:=by decide)
  (hcd:(x == ("__classdict__" : Str))=false:=by decide):PL X (.Name x pos) (wMove i):=by
 intro ae s σ H Pr Z ag I E h;unfold wMove movW at h
 cases q:Z[i]? with
 |none=>rw[q]at h;exact h.elim
 | some l =>
  rw[q]at h;obtain⟨sv,hs,sl⟩:=E.slot q
  cases l with
  |un=>exact h.elim
  |dic a kvs=>exact h.elim
  | d y =>
   obtain⟨v,rfl,r⟩:=sl;exact thn (pe_var hN hv hd hcd ae s σ H (λw H'=>w=v/\H'=H) I ⟨v,hs,rfl,rfl⟩) λu s1 ⟨w,H1,I1,r1,e1,e2⟩=>by subst e1 e2;exact⟨w,H1,_,Z,I1,r1,E.cons_d r,h⟩
  | own a xs =>
   obtain⟨rfl,vs,ha,r⟩:=sl;refine thn (pe_var hN hv hd hcd ae s σ H (λw H'=>w=.ref a/\H'=H) I ⟨.ref a,hs,rfl,rfl⟩) λu s1 ⟨w,H1,I1,r1,e1,e2⟩=>?_;subst e1 e2;exact⟨_,_,_,_,I1,r1,E.out q,h⟩
  | bx a ls =>
   have hv':∃b,sv=some (.ref b):=by
    cases a with
    |none=>simp only[Slot1]at sl;obtain⟨b,_,e,_⟩:=sl;exact⟨b,e⟩
    |some b=>simp only[Slot1]at sl;exact⟨b,sl.1⟩
   obtain⟨b,rfl⟩:=hv';refine thn (pe_var hN hv hd hcd ae s σ H (λw H'=>w=.ref b/\H'=H) I ⟨.ref b,hs,rfl,rfl⟩) λu s1 ⟨w,H1,I1,r1,e1,e2⟩=>?_;subst e1 e2;exact⟨_,_,_,_,I1,r1,E.outL q hs,h⟩
theorem pl_glob{x:Str}{v:V}{u:Value}{y:D}{pos:Pos}(hg:Gl X x)(hm:X.mg x=some u)(r:RelV v u)(hy:∀ H,Rep X.K H v y) (hd:(x == ("__debug__" : Str))=false:=by decide):PL X (.Name x pos) (wC y) :=
 PL.of (pe_glob hg hm r hd) λσ H Pr Z ag E h=>⟨_,_,E.cons_d (hy H),h⟩
def isBl:L->(Bool->Prop)->Prop
 |.d (.bl b),k=>k b
 |_,_=>False
def wTest(t:W L):W Bool:=λZ ag=>t Z λr Z1=>isBl r λb=>ag b Z1
theorem isBl_is{r:L}{k:Bool->Prop}(h:isBl r k):∃b,r=.d (.bl b)/\k b:=by
 cases r with
 | d x=>cases x with
  |bl b=>exact⟨b,rfl,h⟩
  |_=>exact h.elim
 |_=>exact h.elim
theorem pb_val{t:W L}(h:PL X e t)(he:∀whole,isTrue e X.env whole=(do let v <- whole;standAt e.pos;holding [v] (truthy v)):=by intro _;rfl):PB X e (wTest t):=by intro ae s σ H Pr Z ag I E ht;rw[he];refine ah (thn (h ae s σ H Pr Z _ I E ht) λu s1 ⟨v,H1,r,Z1,I1,rv,E1,p⟩=>ah (cj (bF ?_)));obtain⟨b,rfl,p⟩:=isBl_is p;obtain⟨_,e1,p1⟩:=E1.head_d;cases e1;cases p1;cases rv;exact a0 ⟨H1,Z1,I1,E1.tail,p⟩
end
section
variable{X:Cx}{e a b c:Expr}{rest:List Expr}{pos:Pos}{ta tb:W L}{tA tB:W Bool}
def PBw(X:Cx)(e:Expr)(t:W Bool):Prop :=
 ∀(whole:Sem Value)(ae:List (Addr×Obj))(s:Shared)(σ:St)(H Pr:Hp)(Z:Ev)(ag:Bool->Ev->Prop),Inv X ae σ H s->REnv X.K Pr H σ Z->t Z ag->wpAny (model X.prog X.w) X.A (isTrue e X.env whole) (EB X ae σ Pr ag) X.xe s
theorem PBw.pb{t:W Bool}(h:PBw X e t):PB X e t:=h _
def wAnd(t u:W Bool):W Bool:=λZ ag=>t Z λc Z1=>if c=true then u Z1 ag else ag false Z1
def wOr(t u:W Bool):W Bool:=λZ ag=>t Z λc Z1=>if c=true then ag true Z1 else u Z1 ag
def wNot(t:W Bool):W Bool:=λZ ag=>t Z λc Z1=>ag (!c) Z1
theorem pbw_and1(ha:PB X a tA):PBw X (.BoolOp .And [a] pos) tA:=by
 intro wh ae s σ H Pr Z ag I E h;refine isTrue_and (thn (ha ae s σ H Pr Z ag I E h) λc s1 e=>?_)
 cases c with
 |true=>exact isTrue_and_nil e
 |false=>exact e
theorem pbw_or1(ha:PB X a tA):PBw X (.BoolOp .Or [a] pos) tA:=by
 intro wh ae s σ H Pr Z ag I E h;refine isTrue_or (thn (ha ae s σ H Pr Z ag I E h) λc s1 e=>?_)
 cases c with
 |false=>exact isTrue_or_nil e
 |true=>exact e
theorem pbw_and(ha:PB X a tA)(hb:PBw X (.BoolOp .And (b::rest) pos) tB):PBw X (.BoolOp .And (a::b::rest) pos) (wAnd tA tB):=by
 intro wh ae s σ H Pr Z ag I E h;refine isTrue_and (thn (ha ae s σ H Pr Z _ I E h) λc s1 ⟨H1,Z1,I1,E1,q1⟩=>?_)
 cases c with
 |true=>exact hb wh ae s1 σ H1 Pr Z1 ag I1 E1 q1
 |false=>exact⟨H1,Z1,I1,E1,q1⟩
theorem pbw_or(ha:PB X a tA)(hb:PBw X (.BoolOp .Or (b::rest) pos) tB):PBw X (.BoolOp .Or (a::b::rest) pos) (wOr tA tB):=by
 intro wh ae s σ H Pr Z ag I E h;refine isTrue_or (thn (ha ae s σ H Pr Z _ I E h) λc s1 ⟨H1,Z1,I1,E1,q1⟩=>?_)
 cases c with
 |true=>exact⟨H1,Z1,I1,E1,q1⟩
 |false=>exact hb wh ae s1 σ H1 Pr Z1 ag I1 E1 q1
theorem pb_not(ha:PB X a tA):PB X (.UnaryOp .Not a pos) (wNot tA):=by intro ae s σ H Pr Z ag I E h;exact isTrue_not (ha ae s σ H Pr Z (λc Z1=>ag (!c) Z1) I E h)
theorem pbc{op:CmpOp}{o:Op2}(ho:OpD X (compareOp op) o)(ha:PL X a ta)(hb:PL X b tb)(hm:behindInMarks op b=false):PB X (.Compare a [op] [b] pos) (wTest (wBin o ta tb)):=by intro ae s σ H Pr Z ag I E h;refine wpAny_isTrue_Compare1 (two (R:=λdx dy Z2=>o dx dy λr=>isBl r λb=>ag b Z2) ha hb I E h λv u s2 x y H2 dx dy Z2 I2 r1 r2 E2 p1 p2 q=>?_) hm;refine thn (ho ae s2 σ H2 Pr Z2 x y v u dx dy _ I2 r1 r2 E2.tail.tail p1 p2 q) λw s3 ⟨z,H3,r,I3,rz,E3,p⟩=>?_;obtain⟨b,rfl,p⟩:=isBl_is p;obtain⟨_,e1,p1⟩:=E3.head_d;cases e1;cases p1;cases rz;exact a0 ⟨H3,Z2,I3,E3.tail,p⟩
def wAndV(ta tb:W L):W L:=λZ ag=>ta Z λr Z1=>isBl r λc=>if c=true then tb Z1 ag else ag (.d (.bl false)) Z1
def wNotV(t:W Bool):W L:=λZ ag=>t Z λc Z1=>ag (.d (.bl (!c))) Z1
theorem pl_one {op} {t:W L} (h:PL X a t):PL X (.BoolOp op [a] pos) t:=λae s σ H Pr Z ag I E hw=>BoolOp_one (h ae s σ H Pr Z ag I E hw)
theorem EL.bl{ae:List (Addr×Obj)}{σ:St}{Pr:Hp}{ag:Bool->Ev->Prop}{u:Value}{s':Shared}(h:EL X ae σ Pr (λr Z=>isBl r λb=>ag b Z) u s') :
  ∃H' b Z',u=.bool b/\Inv X ae σ H' s'/\REnv X.K Pr H' σ Z'/\ag b Z':=by
 obtain⟨v,H',r,Z',I,rv,E,p⟩:=h;obtain⟨b,rfl,p⟩:=isBl_is p;obtain⟨_,e1,p1⟩:=E.head_d;cases e1;cases p1;cases rv;exact⟨H',b,Z',rfl,I,E.tail,p⟩
theorem pl_and(ha:PL X a ta)(hb:PL X (.BoolOp .And (b::rest) pos) tb):PL X (.BoolOp .And (a::b::rest) pos) (wAndV ta tb):=by
 intro ae s σ H Pr Z ag I E h;refine BoolOp_and (thn (ha ae s σ H Pr Z _ I E h) λv s1 q=>?_)
 obtain⟨H1,c,Z1,rfl,I1,E1,q1⟩:=EL.bl (ag:=λc Z1=>if c=true then tb Z1 ag else ag (.d (.bl false)) Z1) q
 refine a0 ?_
 cases c with
 |true=>exact hb ae s1 σ H1 Pr Z1 ag I1 E1 q1
 |false=>exact⟨.bl false,H1,_,Z1,I1,rfl,E1.cons_d (.bl false),q1⟩
theorem pl_not(ha:PL X a ta):PL X (.UnaryOp .Not a pos) (wNotV (wTest ta)):=by intro ae s σ H Pr Z ag I E h;refine UnaryOp_ (thn (ha ae s σ H Pr Z _ I E h) λv s1 q=>?_);obtain⟨H1,c,Z1,rfl,I1,E1,q1⟩:=EL.bl (ag:=λc Z1=>ag (.d (.bl (!c))) Z1) q;exact not_of (a0 ⟨.bl (!c),H1,_,Z1,I1,rfl,E1.cons_d (.bl _),q1⟩)
def wIfE(t:W Bool)(ta tb:W L):W L:=λZ ag=>t Z λc Z1=>if c=true then ta Z1 ag else tb Z1 ag
theorem pl_ifE(hc:PB X c tA)(ha:PL X a ta)(hb:PL X b tb):PL X (.IfExp c a b pos) (wIfE tA ta tb):=by
 intro ae s σ H Pr Z ag I E h;refine wpAny_IfExp (thn (hc ae s σ H Pr Z _ I E h) λd s1 ⟨H1,Z1,I1,E1,q1⟩=>?_)
 cases d with
 |true=>exact ha ae s1 σ H1 Pr Z1 ag I1 E1 q1
 |false=>exact hb ae s1 σ H1 Pr Z1 ag I1 E1 q1
def wUn(op:D->(L->Prop)->Prop)(t:W L):W L:=λZ ag=>t Z λx Z1=>toD x λdx=>op dx λr=>ag r Z1
def opNeg:D->(L->Prop)->Prop
 |.int i,k=>k (.d (.int (-i)))
 |_,_=>False
theorem pl_neg(ha:PL X a ta):PL X (.UnaryOp .USub a pos) (wUn opNeg ta):=by
 intro ae s σ H Pr Z ag I E h;refine UnaryOp_ (thn (ha ae s σ H Pr Z _ I E h) λv s1 q=>?_);obtain⟨x,H1,dx,Z1,I1,r1,E1,q1⟩:=EL.frz (ag:=λdx Z1=>opNeg dx λr=>ag r Z1) q;obtain⟨_,e1,p1⟩:=E1.head_d;cases e1
 cases p1 with
 | int i =>
  exact thn (un_neg ae s1 σ H1 _ v (λw H'=>w=.int (-i)/\H'=H1) I1 r1 ⟨i,rfl,rfl,rfl⟩) λu s2 ⟨w,H2,I2,r2,e1,e2⟩=>by subst e1 e2;exact⟨_,_,_,Z1,I2,r2,E1.tail.cons_d (.int _),q1⟩
 |_=>exact q1.elim
variable{st:Stmt}{sts:List Stmt}{t u:W Fl}
def wNext:W Fl:=λZ ag=>ag .nx Z
def wSeq(t u:W Fl):W Fl:=λZ ag=>t Z λf Z1=>match f with
 |.nx=>u Z1 ag
 |f=>ag f Z1
theorem pms_nil:PMs X [] wNext:=λ_ _ σ H Pr Z ag I E h=>bT ⟨σ,H,Z,I,E,h⟩
theorem pms_cons(h1:PM X st t)(h2:PMs X sts u):PMs X (st::sts) (wSeq t u):=by
 intro ae s σ H Pr Z ag I E h;refine wpAny_execs_cons (thn (h1 ae s σ H Pr Z _ I E h) λf s1 q=>?_)
 cases f with
 | next =>
  obtain⟨σ',H',Z',I',E',q⟩:=q;exact h2 ae s1 σ' H' Pr Z' ag I' E' q
 |ret v=>exact q
 |brk=>exact q
 |cont=>exact q
theorem pms_one(h1:PM X st t):PMs X [st] t:=by
 intro ae s σ H Pr Z ag I E h;refine wpAny_execs_cons (thn (h1 ae s σ H Pr Z _ I E h) λf s1 q=>?_)
 cases f with
 |next=>exact bT q
 |ret v=>exact q
 |brk=>exact q
 |cont=>exact q
def wDrop(t:W L):W Fl:=λZ ag=>t Z λ_ Z1=>ag .nx Z1
theorem pm_expr{te:W L}(he:PL X e te)(hs:swapsWith e none pos.line X.env=pure false:=by rfl):PM X (.Expr e pos) (wDrop te):=by intro ae s σ H Pr Z ag I E h;exact wpAny_Expr_any (thn (he ae s σ H Pr Z _ I E h) λv s1 ⟨x,H1,r,Z1,I1,r1,E1,q1⟩=>⟨σ,H1,Z1,I1,E1.tail,q1⟩) I.quiet hs
def wRet(t:W L):W Fl:=λZ ag=>t Z λr Z1=>ag (.rt r) Z1
theorem pm_ret{te:W L}(he:PL X e te):PM X (.Return (some e) pos) (wRet te):=by intro ae s σ H Pr Z ag I E h;exact wpAny_Return_some (thn (he ae s σ H Pr Z _ I E h) λv s1 ⟨x,H1,r,Z1,I1,r1,E1,q1⟩=>⟨x,σ,H1,r,Z1,σ,I1,r1,E1,q1⟩)
def wIf(c:W Bool)(t u:W Fl):W Fl:=λZ ag=>c Z λb Z1=>if b=true then t Z1 ag else u Z1 ag
theorem pm_if{sa sb:List Stmt}(hc:PB X c tA)(ha:PMs X sa t)(hb:PMs X sb u):PM X (.If c sa sb pos) (wIf tA t u):=by
 intro ae s σ H Pr Z ag I E h;refine wpAny_If (thn (hc ae s σ H Pr Z _ I E h) λd s1 ⟨H1,Z1,I1,E1,q1⟩=>?_)
 cases d with
 |true=>exact ha ae s1 σ H1 Pr Z1 ag I1 E1 q1
 |false=>exact hb ae s1 σ H1 Pr Z1 ag I1 E1 q1
theorem REnv.forget{K:PySem.W.Frag}{Pr H:Hp}{σ:St}{Z:Ev}(E:REnv K Pr H σ Z)(i:Nat)(v:Option V):REnv K Pr H (σ.set i v) (Z.set i .un):=by
 have hsub:(owns (Z.set i .un)).Sublist (owns Z):=by
  have:∀(Z:Ev)(i:Nat),(owns (Z.set i .un)).Sublist (owns Z):=by
   intro Z
   induction Z with
   |nil=>intro i;exact bW _
   | cons l Z ih =>
    intro i
    cases i with
    | zero =>
     show(owns Z).Sublist (owns (l::Z));rw[owns_cons];exact br _ _
    | succ i =>
     show(owns (l::Z.set i .un)).Sublist (owns (l::Z));rw[owns_cons,owns_cons];exact(bW _).append (ih i)
  exact this Z i
 exact⟨E.sub,E.nd.sublist hsub,λa h=>E.off a (hsub.subset h),Paired.set2 True.intro i E.sl⟩
theorem REnv.store{K:PySem.W.Frag}{Pr H:Hp}{σ:St}{Z:Ev}{v:Option V}{l:L}(E:REnv K Pr H (v::σ) (l::Z)){i:Nat}(hi:i<σ.length):REnv K Pr H (σ.set i v) (Z.set i l):=by have E1:=E.forget (i+1) v;have E2:REnv K Pr H (v::σ.set i v) (l::Z.set i .un):=E1;have hl:=E.tail.len;have E3:=E2.back (i:=i) (by rw[a7 zZ]) (by rw[a7 hi]);rw[bM]at E3;exact E3
def wSet(i:Nat)(t:W L):W Fl:=λZ ag=>t Z λr Z1=>ag .nx (Z1.set i r)
theorem pm_set{i:Nat}{x:Str}{te:W L}{pos':Pos}(hN:X.N.Nodup)(hi:X.N[i]?=some x)(hx:Loc X.env.scope x)(he:PL X e te)(hs:swapsWith e (some (.Name x pos')) pos.line X.env=pure false:=by rfl)(hf:X.fn x=true∨X.env.scope.names.lookup x=some .local:=by first|exact .inl rfl|exact .inr rfl|assumption) :
  PM X (.Assign [.Name x pos'] e pos) (wSet i te):=by
 intro ae s σ H Pr Z ag I E h;refine wpAny_Assign_Name (thn (he ae s σ H Pr Z _ I E h) λv s1 ⟨y,H1,r,Z1,I1,r1,E1,q1⟩=>?_) hs;exact store_ok I1 hN hi hx r1 (λs2 I2=>⟨_,H1,_,I2,E1.store (by rw[I1.len];exact(ak.mp hi).1),q1⟩) hf
end
theorem owns_perm{a b:Ev}(h:a.Perm b):(owns a).Perm (owns b):=by
 induction h with
 |nil=>exact .refl _
 |cons x _ ih=>rw[owns_cons,owns_cons];exact ih.append_left _
 | swap x y l =>
  rw[owns_cons,owns_cons,owns_cons,owns_cons,<- bg,<- bg];exact List.Perm.append_right _ a9
 |trans _ _ h1 h2=>exact h1.trans h2
theorem owns_sub{a b:Ev}(h:a.Sublist b):(owns a).Sublist (owns b):=by
 induction h with
 |slnil=>exact .refl _
 |cons x _ ih=>rw[owns_cons];exact ih.trans (br _ _)
 |cons_cons x _ ih=>rw[owns_cons,owns_cons];exact(bW _).append ih
def tL(K:PySem.W.Frag)(t:W L):TE:=λσ H Q=>∃Pr Z ag,REnv K Pr H σ Z/\t Z ag/\∀v H' r Z',REnv K Pr H' (some v::σ) (r::Z')->ag r Z'->Q v H'
def tW(K:PySem.W.Frag)(t:W Fl):TS:=λD σ H=>∃Pr Z ag,REnv K Pr H σ Z/\t Z ag/\(∀σ' H' Z',REnv K Pr H' σ' Z'->ag .nx Z'->D.nx σ' H')/\(∀σ' H' Z',REnv K Pr H' σ' Z'->ag .bk Z'->D.bk σ' H')/\(∀σ' H' Z',REnv K Pr H' σ' Z'->ag .ct Z'->D.ct σ' H') /\
 ∀v τ H' r Z',REnv K Pr H' (some v::τ) (r::Z')->ag (.rt r) Z'->D.rt v H'
noncomputable def tWb(K:PySem.W.Frag)(t:W Bool):TT:=λσ H Q=>∃Pr Z ag,REnv K Pr H σ Z/\t Z ag/\∀b H' Z',REnv K Pr H' σ Z'->ag b Z'->Q b H'
section
variable{X:Cx}{e a b:Expr}{es:List Expr}{pos:Pos}{st:Stmt}{sts:List Stmt}{t u:W Fl}
theorem PL.pe{t:W L}(h:PL X e t):PE X e (tL X.K t):=λae s σ H Q I ⟨Pr,Z,ag,E,ht,q⟩ =>
 thn (h ae s σ H Pr Z ag I E ht) λu s1 ⟨v,H1,r,Z1,I1,rv,E1,p⟩=>⟨v,H1,I1,rv,q v H1 r Z1 E1 p⟩
theorem PB.pt{t:W Bool}(h:PB X e t):PT X e (tWb X.K t):=λae s σ H Q I ⟨Pr,Z,ag,E,ht,q⟩ =>
 thn (h ae s σ H Pr Z ag I E ht) λb s1 ⟨H1,Z1,I1,E1,p⟩=>⟨H1,I1,q b H1 Z1 E1 p⟩
theorem PMs.pss(h:PMs X sts t):PSs X sts (tW X.K t):=λae s σ H D I ⟨Pr,Z,ag,E,ht,q1,q2,q3,q4⟩ =>
 thn (h ae s σ H Pr Z ag I E ht) λf s1 q=>by
  cases f with
  |next=>obtain⟨σ',H',Z',I',E',p⟩:=q;exact⟨σ',H',I',q1 σ' H' Z' E' p⟩
  |brk=>obtain⟨σ',H',Z',I',E',p⟩:=q;exact⟨σ',H',I',q2 σ' H' Z' E' p⟩
  |cont=>obtain⟨σ',H',Z',I',E',p⟩:=q;exact⟨σ',H',I',q3 σ' H' Z' E' p⟩
  |ret u=>obtain⟨v,σ',H',r,Z',τ,I',rv,E',p⟩:=q;exact⟨v,σ',H',I',rv,q4 v τ H' r Z' E' p⟩
noncomputable def endsOf(K:PySem.W.Frag)(Pr:Hp)(ag:Fl->Ev->Prop):Ends where
 nx:=λσ' H'=>∃Z',REnv K Pr H' σ' Z'/\ag .nx Z'
 rt:=λv H'=>∃τ r Z',REnv K Pr H' (some v::τ) (r::Z')/\ag (.rt r) Z'
 bk:=λσ' H'=>∃Z',REnv K Pr H' σ' Z'/\ag .bk Z'
 ct:=λσ' H'=>∃Z',REnv K Pr H' σ' Z'/\ag .ct Z'
theorem PM.of{ts:TS}(h:PS X st ts)(q:∀σ H Pr Z ag,σ.length=X.N.length->REnv X.K Pr H σ Z->t Z ag->ts (endsOf X.K Pr ag) σ H):PM X st t:=λae s σ H Pr Z ag I E ht =>
 thn (h ae s σ H _ I (q σ H Pr Z ag I.len E ht)) λf s1 q=>by
  cases f with
  |next=>obtain⟨σ',H',I',Z',E',p⟩:=q;exact⟨σ',H',Z',I',E',p⟩
  |brk=>obtain⟨σ',H',I',Z',E',p⟩:=q;exact⟨σ',H',Z',I',E',p⟩
  |cont=>obtain⟨σ',H',I',Z',E',p⟩:=q;exact⟨σ',H',Z',I',E',p⟩
  |ret u=>obtain⟨v,σ',H',I',rv,τ,r,Z',E',p⟩:=q;exact⟨v,σ',H',r,Z',τ,I',rv,E',p⟩
theorem REnv.narrow{K:PySem.W.Frag}{Pr H1 H:Hp}{σ1 σ:St}{Z1 Z:Ev}(E1:REnv K Pr H1 σ1 Z1)(E:REnv K (butOwn H1 Z1) H σ Z):REnv K Pr H σ Z:=by
 refine⟨λb o e=>E.sub b o ?_,E.nd,λa ha=>?_,E.sl⟩
 . unfold butOwn;rw[if_neg,E1.sub b o e];intro hm;have z:=E1.off b hm;rw[e]at z;cases z
 .
  have z:=E.off a ha;unfold butOwn at z;by_cases hm:a∈owns Z1
  . exact E1.off a hm
  .
   rw[if_neg hm]at z
   cases q:Pr a with
   |none=>rfl
   |some o=>rw[E1.sub a o q]at z;cases z
def aNil:W (List L):=λZ ag=>ag [] Z
def aVal(t:W L)(r:W (List L)):W (List L):=λZ ag=>t Z λx Z1=>r Z1 λxs Z2=>ag (x::xs) Z2
def aVar(i:Nat)(r:W (List L)):W (List L):=λZ ag=>match Z[i]? with
 |some (.own _ _)=>r Z λxs Z2=>ag (.un::xs) Z2
 |_=>False
theorem pal_nil:PAL X [] [] aNil:=λ_ ae s σ H Pr Z ag I E h=>Calls.spliced_nil ⟨[],H,[],Z,I,.nil,rfl,rfl,E,λk i e=>by simp at e,h⟩
theorem pal_val{bs:List (Option Nat)}{r:W (List L)}{t:W L}(ha:PL X e t)(hr:PAL X es bs r)(hs:starEach (e::es) X.env=(false,eval e X.env)::starEach es X.env:=by rfl):PAL X (e::es) (none::bs) (aVal t r):=by
 intro pos ae s σ H Pr Z ag I E h;rw[hs];show wpAny _ _ (spliced ((false,eval e X.env)::backTo pos (starEach es X.env))) _ _ s;refine Calls.spliced_cons (thn (ha ae s σ H Pr Z _ I E h) λu s1 ⟨x,H1,l,Z1,I1,r1,E1,q1⟩=>?_);refine thn (hr pos ae s1 σ H1 _ Z1 _ I1 E1.tail.wide q1) λus s2 ⟨vs,H2,ls,Z2,I2,r2,hl,hb,E2,hv,q2⟩=>?_;have E3:REnv X.K Pr H2 (vs.map some++(some x::σ)) (ls++(l::Z2)):=REnv.step (τ:=[some x]) (lam:=[l]) E1 rfl E2 (by simp[hl])
 have E4:REnv X.K Pr H2 (some x::(vs.map some++σ)) (l::(ls++Z2)):=by
  have pm:(owns (ls++(l::Z2))).Perm (owns (l::(ls++Z2))):=owns_perm List.perm_middle;have s1:=Paired.unapp (by simp[hl]) E3.sl;obtain⟨s1,s2⟩:=s1
  cases s2 with
  |cons q t=>exact⟨E3.sub,pm.nodup_iff.mp E3.nd,λa h=>E3.off a (pm.mem_iff.mpr h),.cons q (Paired.app s1 t)⟩
 refine⟨x::vs,H2,l::ls,Z2,I2,.cons r1 r2,by simp[hl],by simp[hb],E4,λk i e=>?_,q2⟩
 cases k with
 |zero=>simp at e
 |succ k=>simpa using hv k i (by simpa using e)
theorem pal_var(i:Nat){x:Str}{p:Pos}{bs:List (Option Nat)}{r:W (List L)}(hr:PAL X es bs r)(hN:X.N[i]?=some x:=by rfl)(hv:Vis X.env.scope x:=by first | exact Or.inl rfl | exact Or.inr (Or.inl rfl) | exact Or.inr (Or.inr rfl)) (hd:(x == ("__debug__" : Str))=false:=by decide)
  (hcd:(x == ("__classdict__" : Str))=false:=by decide) (hs:starEach (.Name x p::es) X.env=(false,eval (.Name x p) X.env)::starEach es X.env:=by rfl):PAL X (.Name x p::es) (some i::bs) (aVar i r):=by
 intro pos ae s σ H Pr Z ag I E h;unfold aVar at h
 cases q:Z[i]? with
 |none=>rw[q]at h;exact h.elim
 | some l =>
  rw[q]at h
  cases l with
  |un=>exact h.elim
  |d y=>exact h.elim
  |bx _ _=>exact h.elim
  |dic _ _=>exact h.elim
  | own a xs =>
   obtain⟨sv,hsl,sl⟩:=E.slot q;obtain⟨rfl,_⟩:=sl;rw[hs];show wpAny _ _ (spliced ((false,eval (.Name x p) X.env)::backTo pos (starEach es X.env))) _ _ s;refine Calls.spliced_cons (thn (pe_var hN hv hd hcd ae s σ H (λw H'=>w=.ref a/\H'=H) I ⟨.ref a,hsl,rfl,rfl⟩) λu s1 ⟨w,H1,I1,r1,e1,e2⟩=>?_);subst e1 e2;refine thn (hr pos ae s1 σ H1 Pr Z _ I1 E h) λus s2 ⟨vs,H2,ls,Z2,I2,r2,hl,hb,E2,hv,q2⟩=>?_;refine⟨.ref a::vs,H2,.un::ls,Z2,I2,.cons r1 r2,by simp[hl],by simp[hb],E2.cons_un,λk j e=>?_,q2⟩
   cases k with
   |zero=>simp at e;subst e;exact⟨rfl,.ref a,rfl,hsl⟩
   |succ k=>simpa using hv k j (by simpa using e)
def toDs:List L->(List D->Prop)->Prop
 |[],k=>k []
 |.d x::r,k=>toDs r λxs=>k (x::xs)
 |_::_,_=>False
theorem toDs_is:∀{ls:List L}{k:List D->Prop},toDs ls k->∃xs,ls=xs.map .d/\k xs
 |[],_,h=>⟨[],rfl,h⟩
 | .d x::r,k,h=>by obtain⟨xs,e,q⟩:=toDs_is (ls:=r) h;exact⟨x::xs,by rw[e];rfl,q⟩
 |.un::_,_,h=>h.elim
 |.own _ _::_,_,h=>h.elim
theorem reps_of{K:PySem.W.Frag}{Pr H:Hp}{σ:St}{Z:Ev}:∀{vs:List V}{xs:List D},vs.length=xs.length->REnv K Pr H (vs.map some++σ) (xs.map .d++Z)->Reps K H vs xs
 |[],[],_,_=>.nil
 | v::vs,x::xs,hl,E=>by obtain⟨w,e,r⟩:=REnv.head_d (v:=some v) (x:=x) E;cases e;exact .cons r (reps_of (by simpa using hl) (REnv.tail (v:=some v) (l:=.d x) E))
 |[],_::_,hl,_=>by simp at hl
 |_::_,[],hl,_=>by simp at hl
def wTup(t:W (List L)):W L:=λZ ag=>t Z λls Z1=>toDs ls λxs=>xs.length<=sizeLine/\ag (.d (.tup xs)) Z1
def wLst(t:W (List L)):W L:=λZ ag=>t Z λls Z1=>toDs ls λxs=>xs.length<=sizeLine/\∀a,ag (.own a xs) Z1
theorem pl_tup {x1} {bs:List (Option Nat)} {t:W (List L)} (h:PAL X es bs t):PL X (.Tuple es x1 pos) (wTup t):=by
 intro ae s σ H Pr Z ag I E hq;refine wpAny_Tuple_spliced (thn (h pos ae s σ H Pr Z _ I E hq) λus s1 ⟨vs,H1,ls,Z1,I1,r,hl,hb,E1,hv,q⟩=>?_);obtain⟨xs,rfl,z,q⟩:=toDs_is q;have af:vs.length=xs.length:=by simpa using hl
 refine⟨by rw[<- r.length,af];exact z,?_⟩;have hf:H1 s1.heap.objs.size=none:=I1.hok.fresh (ay _);refine⟨.ref s1.heap.objs.size,upd H1 s1.heap.objs.size (.tup vs),_,Z1,I1.laid (t':=s1.toks) (λb u e=>aq _ e) (ay _) ?_,rfl,(E1.drop (by simp[af])).cons_tup hf (reps_of af E1),q⟩;exact⟨by rw[af];exact z,us,r,⟨_,aU _ rfl,rfl,_,rfl⟩⟩
theorem pl_lst{bs:List (Option Nat)}{t:W (List L)}(h:PAL X es bs t):PL X (.List es pos) (wLst t):=by
 intro ae s σ H Pr Z ag I E hq;refine wpAny_List_spliced (thn (h pos ae s σ H Pr Z _ I E hq) λus s1 ⟨vs,H1,ls,Z1,I1,r,hl,hb,E1,hv,q⟩=>?_);obtain⟨xs,rfl,z,q⟩:=toDs_is q;have af:vs.length=xs.length:=by simpa using hl
 refine⟨by rw[<- r.length,af];exact z,?_⟩;have hf:H1 s1.heap.objs.size=none:=I1.hok.fresh (ay _);refine⟨.ref s1.heap.objs.size,upd H1 s1.heap.objs.size (.lst vs),_,Z1,I1.laid (t':=s1.toks) (λb u e=>aq _ e) (ay _) ?_,rfl,(E1.drop (by simp[af])).cons_own hf (reps_of af E1),q _⟩;exact⟨by rw[af];exact z,us,0,r,aU _ rfl⟩
abbrev FS:=List L->(L->List L->Prop)->Prop
noncomputable def spF(K:PySem.W.Frag)(n:Nat)(fs:FS):Sp:=λvs H Q _=>vs.length=n/\∃Pr ls ag,REnv K Pr H (vs.map some) ls/\fs ls ag/\∀v H' r ls',REnv K Pr H' (some v::vs.map some) (r::ls')->ag r ls'->Q v H'
theorem REnv.swap{K:PySem.W.Frag}{Pr H:Hp}{σ τ:St}{Z lam:Ev}(hl:τ.length=lam.length)(E:REnv K Pr H (τ++σ) (lam++Z)):REnv K Pr H (σ++τ) (Z++lam):=by have pm:(owns (lam++Z)).Perm (owns (Z++lam)):=owns_perm a9;obtain⟨s1,s2⟩:=Paired.unapp hl E.sl;exact⟨E.sub,pm.nodup_iff.mp E.nd,λa h=>E.off a (pm.mem_iff.mpr h),Paired.app s2 s1⟩
theorem callee{K:PySem.W.Frag}{Pr H H':Hp}{σ τ:St}{Z ls ls':Ev}{v:Option V}{r:L}(hl:τ.length=ls.length)(E:REnv K Pr H (τ++σ) (ls++Z))(E':REnv K (butOwn H ls) H' (v::τ) (r::ls')):REnv K Pr H' (v::(τ++σ)) (r::(ls'++Z)):=by
 have hρ:σ.length=Z.length:=(E.drop hl).len;have z:=REnv.step (τ:=σ) (σ:=τ) (lam:=Z) (Z:=ls) (w:=[v]) (μ:=[r]) (E.swap hl) hρ E' rfl;have hl':τ.length=ls'.length:=by have:=E'.len;simpa using this
 obtain⟨s1,s2⟩:=Paired.unapp (a:=[v]) (b:=[r]) rfl z.sl;obtain⟨s2,s3⟩:=Paired.unapp hρ s2;have pm:(owns ([r]++(Z++ls'))).Perm (owns (r::(ls'++Z))):=owns_perm (List.Perm.cons r (a9 (l₁:=Z) (l₂:=ls')));exact⟨z.sub,pm.nodup_iff.mp z.nd,λa h=>z.off a (pm.mem_iff.mpr h),Paired.app s1 (Paired.app s3 s2)⟩
def wCall(fs:FS)(t:W (List L)):W L:=λZ ag=>t Z λls Z1=>fs ls λr _=>ag r Z1
def wCallB(fs:FS)(k i:Nat)(t:W (List L)):W L:=λZ ag=>t Z λls Z1=>match Z1[i]? with
 |some (.own a xs)=>fs (ls.set k (.own a xs)) λr ls'=>∃ys,ls'[k]?=some (.own a ys)/\ag r (Z1.set i (.own a ys))
 |_=>False
section
variable{CX:CXT}{k n:Nat}{f:Addr}{fd:FuncData}{ps:List Str}{fs:FS}{E:XK}{x:Str}{p:Pos}{bs:List (Option Nat)}{t:W (List L)}
theorem REnv.drop1{K:PySem.W.Frag}{Pr H:Hp}{σ τ:St}{Z lam:Ev}{v:Option V}{r:L}(hl:τ.length=lam.length)(E:REnv K Pr H (v::(τ++σ)) (r::(lam++Z))):REnv K Pr H (v::σ) (r::Z):=by obtain⟨s1,s2⟩:=Paired.unapp (a:=[v]) (b:=[r]) rfl E.sl;obtain⟨s2,s3⟩:=Paired.unapp hl s2;have sb:(owns (r::Z)).Sublist (owns (r::(lam++Z))):=owns_sub (List.Sublist.cons_cons r (br _ _));exact⟨E.sub,E.nd.sublist sb,λa h=>E.off a (sb.subset h),Paired.app s1 s3⟩
theorem pl_call(F:FnOk X.prog X.w X.K X.mg X.base CX k f fd ps (spF X.K n fs))(hr:Room k X.A)(hg:Gl X x)(hm:X.mg x=some (.ref f))(hk:PySem.W.keepIn X.K (.ref f)=true)(hb:Binds X.K fd ps [])(hx:Passes CX X E)
  (ha:PAL X (e::es) bs t) (hn:bs.length=n) (hdb:(x == ("__debug__" : Str))=false:=by decide) (he:starEach (e::es) X.env=(false,eval e X.env)::starEach es X.env:=by rfl) (hpl:(backTo pos (starEach es X.env)).any (·.1)=false:=by rfl) :
  PL X (.Call (.Name x p) (e::es) [] pos) (wCall fs t):=by
 intro ae s σ H Pr Z ag I E0 h;refine bh (ld_glob I hg hm ?_ hdb);refine bR (h₀:=X.base) I.ok.mod.kin hk (thn (ha pos ae s σ H Pr Z _ I E0 h) λus s1 ⟨vs,H1,ls,Z1,I1,r,hl,hbl,E1,hv,q⟩=>⟨I1.kIn,?_⟩) he hpl;have hl':(vs.map some).length=ls.length:=by simp[hl]
 refine thn (run_fn (Q:=λv H'=>∃r Z',REnv X.K Pr H' (some v::σ) (r::Z')/\ag r Z') F hr hb .nil hx I1 r ?_) λu s2 ⟨v,H2,I2,rv,r,Z',E2,p⟩=>⟨v,H2,r,Z',I2,rv,E2,p⟩;rw[aV];refine⟨hbl.trans hn,butOwn H1 ls,ls,_,(E1.left hl').wide,q,λv H' r ls' E2 p=>⟨r,Z1,?_,p⟩⟩;have z:=callee hl' E1 E2;have hl2:(vs.map some).length=ls'.length:=by have:=E2.len;simpa using this
 exact z.drop1 hl2
theorem pl_callB(F:FnOk X.prog X.w X.K X.mg X.base CX k f fd ps (spF X.K n fs))(hr:Room k X.A)(hg:Gl X x)(hm:X.mg x=some (.ref f))(hk:PySem.W.keepIn X.K (.ref f)=true)(hb:Binds X.K fd ps [])(hx:Passes CX X E)
  (j i:Nat) (ha:PAL X (e::es) bs t) (hj:bs[j]?=some (some i)) (hn:bs.length=n) (hdb:(x == ("__debug__" : Str))=false:=by decide) (he:starEach (e::es) X.env=(false,eval e X.env)::starEach es X.env:=by rfl) (hpl:(backTo pos (starEach es X.env)).any (·.1)=false:=by rfl) :
  PL X (.Call (.Name x p) (e::es) [] pos) (wCallB fs j i t):=by
 intro ae s σ H Pr Z ag I E0 h;refine bh (ld_glob I hg hm ?_ hdb);refine bR (h₀:=X.base) I.ok.mod.kin hk (thn (ha pos ae s σ H Pr Z _ I E0 h) λus s1 ⟨vs,H1,ls,Z1,I1,r,hl,hbl,E1,hv,q⟩=>⟨I1.kIn,?_⟩) he hpl;have hl':(vs.map some).length=ls.length:=by simp[hl]
 refine thn (run_fn (Q:=λv H'=>∃r Z',REnv X.K Pr H' (some v::σ) (r::Z')/\ag r Z') F hr hb .nil hx I1 r ?_) λu s2 ⟨v,H2,I2,rv,r,Z',E2,p⟩=>⟨v,H2,r,Z',I2,rv,E2,p⟩;rw[aV];dsimp only at q
 cases qi:Z1[i]? with
 |none=>rw[qi]at q;exact q.elim
 | some l =>
  rw[qi]at q
  cases l with
  |un=>exact q.elim
  |d y=>exact q.elim
  |bx _ _=>exact q.elim
  |dic _ _=>exact q.elim
  | own a xs =>
   obtain⟨hun,w,hw,hσ⟩:=hv j i hj;obtain⟨sv,hs2,rfl,_⟩:=(E1.drop hl').slot qi;rw[hσ]at hs2;cases hs2;have hjl:j<ls.length:=(ak.mp hun).1;have hjv:j<vs.length:=by omega
   have hil:i<Z1.length:=(ak.mp qi).1;have E2:=E1.out (i:=ls.length+i) (a:=a) (xs:=xs) (by rw[aA zZ];simpa using qi);rw[List.set_append_right _ _ zZ,aS]at E2;have E3:=E2.back (i:=j) (by rw[aK hjl];exact hun) (by rw[aK (by simp;omega)];simp[hw]);rw[List.set_append_left _ _ hjl]at E3;have hl3:(vs.map some).length=(ls.set j (.own a xs)).length:=by simp[hl]
   refine⟨hbl.trans hn,butOwn H1 (ls.set j (.own a xs)),_,_,(E3.left hl3).wide,q,λv H' r ls' E4 p=>?_⟩;obtain⟨ys,hys,p⟩:=p;refine⟨r,Z1.set i (.own a ys),?_,p⟩;have z:=callee hl3 E3 E4;have hl4:(vs.map some).length=ls'.length:=by have:=E4.len;simpa using this
   have hjl':j<ls'.length:=by simp at hl4;omega
   have z1:=z.out (i:=1+j) (a:=a) (xs:=ys) (by rw[Nat.add_comm];simp only[List.getElem?_cons_succ];rw[aK hjl'];exact hys);rw[Nat.add_comm 1 j,List.set_cons_succ,List.set_append_left _ _ hjl']at z1
   have z2:=z1.back (i:=(1+ls'.length)+i) (by
    rw[Nat.add_comm 1,Nat.add_right_comm,List.getElem?_cons_succ,aA zY]
    simp[hil]) (by
    rw[Nat.add_comm 1,Nat.add_right_comm,List.getElem?_cons_succ,aA (by simp at hl4 ⊢;omega)];simp at hl4 ⊢;rw[<- hl4,aS]
    exact hσ)
   rw[Nat.add_comm 1,Nat.add_right_comm,List.set_cons_succ,List.set_append_right _ _ zY]at z2;simp only[List.length_set,aS,bM]at z2;exact z2.drop1 (by simp at hl4 ⊢;exact hl4)
end
end
def Back(Z:Ev):List L->List L->Prop:=Paired λl l'=>match l with
 |.own a _=>(∃ys,l'=.own a ys/\L.own a ys∈Z)∨l'=.un
 |.bx _ _=>l'=.un
 |.dic _ _=>l'=.un
 |l=>l'=l
def okEnd(ls:List L)(ag:L->List L->Prop):Fl->Ev->Prop:=λf Z=>match f with
 |.rt r=>∃ls',Back Z ls ls'/\ag r ls'
 |.nx=>∃ls',Back Z ls ls'/\ag (.d .non) ls'
 |_=>False
theorem Back.owns{Z:Ev}:∀{ls ls':List L},Back Z ls ls'->(owns ls').Sublist (owns ls)
 |_,_,.nil=>.refl _
 | l::ls,l'::ls',.cons h t=>by
  have ih:=Back.owns t;rw[owns_cons,owns_cons]
  cases l with
  | own a xs =>
   rcases h with⟨ys,rfl,_⟩|rfl
   . exact(bW _).append ih
   . exact ih.trans (br _ _)
  |un=>have e:l'=.un:=h;subst e;exact(bW _).append ih
  |d x=>have e:l'=.d x:=h;subst e;exact(bW _).append ih
  |bx k ms=>have e:l'=.un:=h;subst e;exact ih.trans (br _ _)
  |dic k ms=>have e:l'=.un:=h;subst e;exact ih.trans (br _ _)
theorem Back.sub{Z:Ev}:∀{ls ls':List L},Back Z ls ls'->∀a∈L2.owns ls',a∈L2.owns Z
 |_,_,.nil=>λa ha=>by simp[L2.owns]at ha
 | l::ls,l'::ls',.cons h t=>λa ha=>by
  have ih:=Back.sub t;rw[owns_cons]at ha;rcases aH.mp ha with z|z
  .
   cases l with
   | own b xs =>
    rcases h with⟨ys,rfl,hm⟩|rfl
    .
     have e:a=b:=by simpa[ownsL]using z
     subst e;exact own_mem hm
    . simp[ownsL]at z
   |un=>have e:l'=.un:=h;subst e;simp[ownsL]at z
   |d x=>have e:l'=.d x:=h;subst e;simp[ownsL]at z
   |bx k ms=>have e:l'=.un:=h;subst e;simp[ownsL]at z
   |dic k ms=>have e:l'=.un:=h;subst e;simp[ownsL]at z
  . exact ih a z
theorem back_env{K:PySem.W.Frag}{Pr H H':Hp}{σ τ:St}{ls ls' Z:Ev}{v:Option V}{r:L}(E:REnv K Pr H σ ls)(E':REnv K (butOwn H ls) H' (v::τ) (r::Z))(B:Back Z ls ls'):REnv K Pr H' (v::σ) (r::ls'):=by
 have E1:=E.narrow E';have p:Pres H H':=pres_of E E'.sub;have sub:=B.sub;have nd1:(owns ls').Nodup:=E.nd.sublist B.owns;refine⟨E1.sub,?_,λa ha=>?_,?_⟩
 . have nd:=E'.nd;rw[owns_cons]at nd ⊢;obtain⟨n1,n2,n3⟩:=aJ.mp nd;exact aJ.mpr ⟨n1,nd1,λa ha b hb=>n3 a ha b (sub b hb)⟩
 .
  rw[owns_cons]at ha;refine E1.off a ?_;rw[owns_cons];rcases aH.mp ha with z|z
  . exact av _ z
  . exact az _ (sub a z)
 .
  have s1:=E'.sl
  cases s1 with
  | cons q t =>
   refine .cons q ?_;have sl:=E.sl;clear E E' E1 nd1 sub
   induction B generalizing σ with
   |nil=>cases sl;exact .nil
   | cons h u ih =>
    rename_i l l' _ _
    cases sl with
    | cons s0 s2 =>
     refine .cons ?_ (ih s2)
     cases l with
     | own a xs =>
      rcases h with⟨ys,rfl,hm⟩|rfl
      . obtain⟨e,_⟩:=s0;obtain⟨_,_,_,z⟩:=Paired.mem2 t hm;exact⟨e,z⟩
      . unfold Slot1;exact True.intro
     |un=>have e:l'=.un:=h;subst e;unfold Slot1;exact True.intro
     |bx k ms=>have e:l'=.un:=h;subst e;unfold Slot1;exact True.intro
     |dic k ms=>have e:l'=.un:=h;subst e;unfold Slot1;exact True.intro
     | d x =>
      have e:l'=.d x:=h;subst e;obtain⟨w,e,r⟩:=s0;exact⟨w,e,r.pres p⟩
section
variable{P:Program}{w:World}{K:PySem.W.Frag}{mg:Str->Option Value}{base:Heap}
theorem REnv.uns{K:PySem.W.Frag}{Pr H:Hp}{σ:St}{Z:Ev}(E:REnv K Pr H σ Z):∀n,REnv K Pr H (σ++List.replicate n none) (Z++List.replicate n .un):=λn=>by
 have e:owns (Z++List.replicate n .un)=owns Z:=by
  rw[owns_append]
  have:owns (List.replicate n L.un)=[]:=by
   induction n with
   |zero=>rfl
   |succ n ih=>rw[List.replicate_succ,owns_cons_un];exact ih
  rw[this,aV]
 refine⟨E.sub,by rw[e];exact E.nd,λa h=>E.off a (by rw[e]at h;exact h),Paired.app E.sl ?_⟩
 induction n with
 |zero=>exact .nil
 | succ n ih =>
  rw[List.replicate_succ,List.replicate_succ];refine .cons True.intro (ih ?_)
  have:owns (List.replicate n L.un)=[]:=by
   clear ih e
   induction n with
   |zero=>rfl
   |succ n ih=>rw[List.replicate_succ,owns_cons_un];exact ih
  rw[owns_append,this,aV]
theorem fn_ok{x qual:Str}{st:Stmt}{f:Addr}{fd:FuncData}{N ps:List Str}{k:Nat}{fs:FS}(F:Fun K x qual st f fd)(S:FnScope N ps (defScope st))(t:W Fl)
  (hbody:∀(cdv:Value)(A:Around)(outer:List Env)(s:Shared)(H:Hp)(E:XK),Room k (A.deeper (envOfC qual (defScope st) s.heap.objs.size f cdv))->PMs (cxOf CX0 P w K mg base N qual (defScope st) f cdv A outer s H E).nox (defBody st) t)
  (h:∀ls ag,ls.length=ps.length->fs ls ag->t (ls++List.replicate (N.length-ps.length) .un) (okEnd ls ag)):FnOk P w K mg base CX0 (k+1) f fd ps (spF K ps.length fs):=by
 refine F.ok S (λvs H Q E q=>q.1) (λcdv A outer s H vs Q E hr q=>?_);obtain⟨hl,Pr,ls,ag,E0,hf,q⟩:=q;refine⟨_,(hbody cdv A outer s H E hr).pss,butOwn H ls,ls++List.replicate (N.length-ps.length) .un,okEnd ls ag,?_,h ls ag (by rw[<- hl];have:=E0.len;simpa using this.symm) hf,λσ' H' Z' E' p=>?_,λ_ _ _ _ p=>p.elim,λ_ _ _ _ p=>p.elim,λv τ H' r Z' E' p=>?_⟩
 . unfold start;rw[hl];exact E0.wide.uns _
 . obtain⟨ls',B,p⟩:=p;exact q .non H' (.d .non) ls' (back_env E0 (E'.cons_d .non) B) p
 . obtain⟨ls',B,p⟩:=p;exact q v H' r ls' (back_env E0 E' B) p
end
theorem back0{Z:Ev}:Back Z [] []:=.nil
theorem back_d{Z:Ev}{x:D}{a b:List L}(t:Back Z a b):Back Z (.d x::a) (.d x::b):=.cons rfl t
theorem back_own{Z:Ev}{p:Addr}{xs ys:List D}{a b:List L}(h:L.own p ys∈Z)(t:Back Z a b):Back Z (.own p xs::a) (.own p ys::b):=.cons (.inl ⟨ys,rfl,h⟩) t
section
variable{X:Cx}{e a b c tg:Expr}{pos:Pos}{tA:W Bool}{t u:W Fl}
def wWhile(c:W Bool)(b:W Fl):W Fl:=λZ ag=>∃J:Nat->Ev->Prop,(∃n,J n Z)/\∀n Z,J n Z->c Z λt Z1=>if t=true then b Z1 λf Z2=>(match f with
 |.nx=>∃m,m<n/\J m Z2
 |.ct=>∃m,m<n/\J m Z2
 |.bk=>ag .nx Z2
 |.rt r=>ag (.rt r) Z2)else ag .nx Z1
theorem pm_while{body:List Stmt}(hp:PassesOwn (model X.prog X.w) X.A X.env X.xe)(hc:PB X c tA)(hb:PMs X body t):PM X (.While c body [] pos) (wWhile tA t):=by
 refine PM.of (ps_while hp hc.pt hb.pss) λσ H Pr Z ag af E h=>?_;obtain⟨J,⟨n0,j0⟩,turn⟩:=h;refine⟨λn σ H=>∃Z,REnv X.K Pr H σ Z/\J n Z,⟨n0,Z,E,j0⟩,λn σ1 H1 ⟨Z1,E1,j1⟩=>⟨Pr,Z1,_,E1,turn n Z1 j1,λb H2 Z2 E2 q=>?_⟩⟩
 cases b with
 |false=>exact⟨Z2,E2,q⟩
 | true =>
  refine⟨λσ' H'=>∃Z' m,REnv X.K Pr H' σ' Z'/\m<n/\J m Z',λσ' H' ⟨Z',m,E',hm,j⟩=>⟨m,hm,Z',E',j⟩,Pr,Z2,_,E2,q,λσ' H' Z' E' ⟨m,hm,j⟩=>⟨Z',m,E',hm,j⟩,λσ' H' Z' E' p=>⟨Z',E',p⟩,λσ' H' Z' E' ⟨m,hm,j⟩=>⟨Z',m,E',hm,j⟩,λv τ H' r Z' E' p=>⟨τ,r,Z',E',p⟩⟩
abbrev Tg:=D->Ev->(Ev->Prop)->Prop
def PT1(X:Cx)(tg:Expr)(g:Tg):Prop:=∃gg:TG,PG X tg gg/\∀v σ H Pr Z x k,σ.length=X.N.length->REnv X.K Pr H σ Z->Rep X.K H v x->g x Z k->gg v σ H λσ' H'=>H'=H/\σ'.length=X.N.length/\∃Z',REnv X.K Pr H σ' Z'/\k Z'
def tgName(i:Nat):Tg:=λx Z k=>k (Z.set i (.d x))
theorem tg_name{i:Nat}{x:Str}(hN:X.N.Nodup)(hi:X.N[i]?=some x)(hx:Loc X.env.scope x)(hf:X.fn x=true∨X.env.scope.names.lookup x=some .local:=by first|exact .inl rfl|exact .inr rfl|assumption):PT1 X (.Name x pos) (tgName i) :=
 ⟨_,pg_name hN hi hx hf,λv σ H Pr Z x k hl E r h=>⟨rfl,by simpa using hl,_,(E.cons_d r).store (by rw[hl];exact(ak.mp hi).1),h⟩⟩
def tgNames:List Nat->List D->Ev->(Ev->Prop)->Prop
 |[],[],Z,k=>k Z
 |i::is,x::xs,Z,k=>tgNames is xs (Z.set i (.d x)) k
 |_,_,_,_=>False
def tgTup(is:List Nat):Tg:=λx Z k=>match x with
 |.tup xs=>tgNames is xs Z k
 |_=>False
def wForL(g:Tg)(b:W Fl):List D->W Fl
 |[]=>λZ ag=>ag .nx Z
 | x::xs=>λZ ag=>g x Z λZ1=>b Z1 λf Z2=>match f with
  |.nx=>wForL g b xs Z2 ag
  |.ct=>wForL g b xs Z2 ag
  |.bk=>ag .nx Z2
  |.rt r=>ag (.rt r) Z2
def itemsOf:D->(List D->Prop)->Prop
 |.lst xs,k=>k xs
 |.tup xs,k=>k xs
 |_,_=>False
def Grown(H H':Hp):Prop:=H'=H∨∃p o,H p=none/\H'=upd H p o
theorem REnv.grown{K:PySem.W.Frag}{Pr H H':Hp}{σ:St}{Z:Ev}(E:REnv K Pr H σ Z)(g:Grown H H'):REnv K Pr H' σ Z:=by
 rcases g with rfl|⟨p,o,h,rfl⟩
 . exact E
 . exact E.new h
def Gives(K:PySem.W.Frag)(H:Hp)(J:It)(xs:List D):Prop:=∀H',Pres H H' ->
 (∀i x,xs[i]?=some x->J.go i H'/\∀v H2,J.yld i H' v H2->Grown H' H2/\Rep K H2 v x)/\J.stop xs.length H'
def EI(X:Cx)(ae:List (Addr×Obj))(σ:St)(tg:Expr)(Pr:Hp)(ag:List D->Ev->Prop)(itv:Value)(s2:Shared):Prop :=
 ∃(it:Addr)(fp:List Addr)(tn:Nat->Heap->Prop)(J:It)(H':Hp)(xs:List D)(Z':Ev),itv=.ref it/\Inv X ae σ H' s2/\Turn X.prog X.w X.K tg J fp it tn/\tn 0 s2.heap/\(∀b∈fp,FpOk X ae H' b)/\REnv X.K Pr H' σ Z'/\Gives X.K H' J xs/\ag xs Z'
def PIL(X:Cx)(tg iter:Expr)(w:W (List D)):Prop :=
 ∀(ae:List (Addr×Obj))(s:Shared)(σ:St)(H Pr:Hp)(Z:Ev)(ag:List D->Ev->Prop),Inv X ae σ H s->REnv X.K Pr H σ Z->w Z ag ->
  wpAny (model X.prog X.w) X.A (eval iter X.env) (λv s1=>wpAny (model X.prog X.w) X.A (pyIter v) (EI X ae σ tg Pr ag) X.xe s1) X.xe s
def wSrc(t:W L):W (List D):=λZ ag=>t Z λr Z1=>toD r λx=>itemsOf x λxs=>ag xs Z1
theorem gives_list{K:PySem.W.Frag}{H:Hp}{a:Addr}{vs:List V}{xs:List D}(h:SqZ K H a vs)(r:Reps K H vs xs):Gives K H (Itl K a) xs:=λH' p=>by have h':=(h.pres p).l;refine⟨λi x e=>?_,⟨vs,h',by rw[r.length];exact ay _⟩⟩;obtain⟨v,ev,rv⟩:=r.get e;refine⟨⟨vs,v,h',ev⟩,λw H2 ⟨e1,e2⟩=>?_⟩;have e3:=e2 vs h';rw[ev]at e3;cases e3;subst e1;exact⟨.inl rfl,rv.pres p⟩
theorem gives_tup{K:PySem.W.Frag}{H:Hp}{a:Addr}{vs:List V}{xs:List D}(h:SqT K H a vs)(r:Reps K H vs xs):Gives K H (Itt K a) xs:=λH' p=>by have h':=h.pres p;refine⟨λi x e=>?_,⟨vs,h',by rw[r.length];exact ay _⟩⟩;obtain⟨v,ev,rv⟩:=r.get e;refine⟨⟨vs,v,h',ev⟩,λw H2 ⟨e1,e2⟩=>?_⟩;have e3:=e2 vs h';rw[ev]at e3;cases e3;subst e1;exact⟨.inl rfl,rv.pres p⟩
theorem pil_seq{t:W L}(h:PL X e t):PIL X tg e (wSrc t):=by
 intro ae s σ H Pr Z ag I E ht;refine thn (h ae s σ H Pr Z _ I E ht) λu s1 q=>?_;obtain⟨v,H1,x,Z1,I1,r1,E1,q2⟩:=EL.frz (ag:=λx Z1=>itemsOf x λxs=>ag xs Z1) q;obtain⟨_,e1,p⟩:=E1.head_d;cases e1
 cases p with
 | lst hz rs =>
  cases r1;obtain⟨its,rv,pl,hz'⟩:=I1.list hz.l;refine wpAny_pyIter_list pl.isList ?_;refine⟨s1.heap.objs.size,[s1.heap.objs.size],_,_,H1,_,Z1,rfl,I1.kept (t':=s1.toks) λb o e=>aq _ e,turn_list _ _,⟨_,aU _ rfl,rfl,rfl⟩,λb hb=>?_,E1.tail,gives_list hz rs,q2⟩;have e:b=s1.heap.objs.size:=by simpa using hb
  subst e;exact I1.fpOk (ay _) (I1.hok.fresh (ay _))
 | tup hz rs =>
  cases r1;obtain⟨its,rv,pl,hz'⟩:=I1.tuple hz;refine wpAny_pyIter_tuple (show s1.heap.IsTuple _ its.toArray from pl) ?_;refine⟨s1.heap.objs.size,[s1.heap.objs.size],_,_,H1,_,Z1,rfl,I1.kept (t':=s1.toks) λb o e=>aq _ e,turn_tuple _ _,⟨_,aU _ rfl,rfl,rfl⟩,λb hb=>?_,E1.tail,gives_tup hz rs,q2⟩;have e:b=s1.heap.objs.size:=by simpa using hb
  subst e;exact I1.fpOk (ay _) (I1.hok.fresh (ay _))
 |_=>exact q2.elim
noncomputable def rngD(lo:Int)(n:Nat):List D:=(List.range n).map λ(i:Nat)=>.int (lo+(i:Int))
theorem gives_rng{K:PySem.W.Frag}{H:Hp}(lo:Int)(n:Nat):Gives K H (Itr lo n) (rngD lo n):=λH' p=>by
 refine⟨λi x e=>?_,?_⟩
 .
  have hi:i<n:=by have:=(ak.mp e).1;simpa[rngD]using this
  refine⟨hi,λv H2 ⟨e1,e2⟩=>?_⟩;subst e1 e2;have:x=.int (lo+(i:Int)):=by unfold rngD at e;rw[bw,List.getElem?_range hi]at e;simpa using e.symm
  subst this;exact⟨.inl rfl,.int _⟩
 . show n<=(rngD lo n).length;simp[rngD]
def toInt:L->(Int->Prop)->Prop
 |.d (.int i),k=>k i
 |_,_=>False
theorem toInt_is{r:L}{k:Int->Prop}(h:toInt r k):∃i,r=.d (.int i)/\k i:=by
 cases r with
 | d x=>cases x with
  |int i=>exact⟨i,rfl,h⟩
  |_=>exact h.elim
 |_=>exact h.elim
def smallI(j:Int):Prop:=-(2^62)<=j/\j<2^62
def wRng1(t:W L):W (List D):=λZ ag=>t Z λr Z1=>toInt r λj=>smallI j/\ag (rngD 0 j.toNat) Z1
theorem pil_rng1{t:W L}{p pos:Pos} (hg:Gl X "range") (hm:X.mg "range"=none) (ha:PL X a t) (hs:starEach [a] X.env=[(false,eval a X.env)]:=by rfl):PIL X tg (.Call (.Name "range" p) [a] [] pos) (wRng1 t):=by
 intro ae s σ H Pr Z ag I E h;refine thn (pi_range1 (tg:=tg) hg hm (pa_cons ha.pe pa_nil hs) hs ae s σ H (λJ H1=>∃Z1 n,J=Itr 0 n/\REnv X.K Pr H1 σ Z1/\ag (rngD 0 n) Z1) I ?_) λv s1 q=>thn q λitv s2 ⟨it,fp,tn,J,H',e,I',T,t0,hf,Z1,n,eJ,E1,q⟩=>?_
 . refine⟨Pr,Z,_,E,h,λv H' r Z' E' p=>?_⟩;obtain⟨j,rfl,hj,p⟩:=toInt_is p;obtain⟨_,e1,p1⟩:=E'.head_d;cases e1;cases p1;exact⟨j,rfl,hj.1,hj.2,Z',_,rfl,E'.tail,p⟩
 . subst eJ;exact⟨it,fp,tn,_,H',_,Z1,e,I',T,t0,hf,E1,gives_rng 0 n,q⟩
def wFor(s:W (List D))(g:Tg)(b:W Fl):W Fl:=λZ ag=>s Z λxs Z1=>wForL g b xs Z1 ag
theorem pm_for{iter:Expr}{body:List Stmt}{w:W (List D)}{g:Tg}(hp:PassesOwn (model X.prog X.w) X.A X.env X.xe)(hc:X.calm=true)(hi:PIL X tg iter w)(hg:PT1 X tg g)(hb:PMs X body t)
  (hs:∀x,foldedSetIterable iter X.env x=pure x:=by intro _;rfl):PM X (.For tg iter body [] pos) (wFor w g t):=by
 intro ae s σ H Pr Z ag I E h;obtain⟨gg,hg,hgg⟩:=hg;refine wpAny_For (thn (hi ae s σ H Pr Z _ I E h) λv s1 h1=>thn h1 λitv s2 h2=>?_) hs;obtain⟨it,fp,tn,J,H2,xs,Z2,e,I2,T,st2,f2,E2,G,w0⟩:=h2;subst e;have stat:∀{H':Hp},(∀b∈fp,H' b=none)->∀b∈fp,FpOk X ae H' b:=λhn b hb=>⟨hn b hb,(f2 b hb).2⟩;refine codeAny_forLoop_any (λn s'=>∃i σ' H' Z',n+i=xs.length/\Inv X ae σ' H' s'/\tn i s'.heap/\(∀b∈fp,H' b=none)/\REnv X.K (butOwn H2 Z2) H' σ' Z'/\wForL g t (xs.drop i) Z' ag) ?_ xs.length ⟨0,σ,H2,Z2,zZ,I2,st2,λb hb=>(f2 b hb).1,E2.wide,by simpa using w0⟩;rintro n s3 ⟨i,σ3,H3,Z3,hn,I3,st3,fr3,E3,w3⟩;obtain⟨go,stop⟩:=G H3 (pres_of E2 E3.sub);by_cases hlt:i<xs.length
 .
  obtain⟨hgo,hy⟩:=go i xs[i] (aE hlt);rw[List.drop_eq_getElem_cons hlt]at w3;refine bS hp (thn (T.item X rfl rfl rfl hc i ae s3 σ3 H3 X.xe I3 (stat fr3) st3 hgo) λr s4 ⟨u,hr,h4⟩=>?_);subst hr;refine bS hp (thn h4 λ_ s5 ⟨x,H5,I5,r5,y5,st5,fr5⟩=>?_);obtain⟨gr,rx⟩:=hy x H5 y5;have I5':=I5.pinned (stat fr5) (T.obj _ _ st5);have E5:=E3.grown gr;refine bS hp (thn (hg _ s5 σ3 H5 x u _ I5' r5 (hgg x σ3 H5 _ Z3 xs[i] _ I5.len E5 rx w3)) λ_ s6 ⟨σ6,H6,I6,e6,hl6,Z6,E6,q6⟩=>?_);subst e6;refine bS hp (thn (hb _ s6 σ6 _ _ Z6 _ I6 E6 q6) λf s7 q7=>?_)
  have again:∀{σ7:St}{H7:Hp}{Z7:Ev},Inv X (ae++pinsAt fp s5.heap) σ7 H7 s7->REnv X.K (butOwn H2 Z2) H7 σ7 Z7->wForL g t (xs.drop (i+1)) Z7 ag ->
    ∃m,m<n/\∃i σ' H' Z',m+i=xs.length/\Inv X ae σ' H' s7/\tn i s7.heap/\(∀b∈fp,H' b=none)/\REnv X.K (butOwn H2 Z2) H' σ' Z'/\wForL g t (xs.drop i) Z' ag:=λ{σ7 H7 Z7} I7 E7 n7=>by
   refine⟨n-1,zZ,i+1,σ7,H7,Z7,zZ,I7.unpinned,T.keep _ _ _ st5 λb hb o e=>(I7.pin (b,o) (az _ (az _ (mem_pinsAt hb e)))).1,λb hb=>?_,E7,n7⟩;obtain⟨o,e,d⟩:=T.obj _ _ st5 b hb;exact(I7.pin (b,o) (az _ (az _ (mem_pinsAt hb e)))).2.1
  cases f with
  |next=>obtain⟨σ7,H7,Z7,I7,E7,n7⟩:=q7;exact again I7 E7 n7
  |cont=>obtain⟨σ7,H7,Z7,I7,E7,n7⟩:=q7;exact again I7 E7 n7
  |brk=>obtain⟨σ7,H7,Z7,I7,E7,q7⟩:=q7;exact⟨σ7,H7,Z7,I7.unpinned,E2.narrow E7,q7⟩
  |ret v=>obtain⟨x7,σ7,H7,r,Z7,τ,I7,r7,E7,q7⟩:=q7;exact⟨x7,σ7,H7,r,Z7,τ,I7.unpinned,r7,E2.narrow E7,q7⟩
 .
  have e:i=xs.length:=by omega
  subst e;refine bS hp (thn (T.done X rfl rfl rfl hc xs.length ae s3 σ3 H3 X.xe I3 (stat fr3) st3 stop) λr s4 ⟨hr,I4⟩=>?_);subst hr;rw[List.drop_length]at w3;exact bT ⟨σ3,H3,Z3,I4,E2.narrow E3,w3⟩
end
section
variable{X:Cx}{e a b c:Expr}{pos:Pos}{ta tb:W L}
def bitsOk(i:Int):Prop:=i.natAbs<2^1000000
def opAdd:Op2:=λx y k=>match x,y with
 |.int i,.int j=>k (.d (.int (i+j)))
 |.str i,.str j=>i.length+j.length<=sizeLine/\k (.d (.str (i++j)))
 |.lst xs,.lst ys=>xs.length+ys.length<=sizeLine/\∀a,k (.own a (xs++ys))
 |_,_=>False
def opSub:Op2:=λx y k=>match x,y with
 |.int i,.int j=>k (.d (.int (i-j)))
 |_,_=>False
def opDiv:Op2:=λx y k=>match x,y with
 |.int i,.int j=>j≠0/\j.natAbs<2^9000/\k (.d (.int (i.fdiv j)))
 |_,_=>False
def opMod:Op2:=λx y k=>match x,y with
 |.int i,.int j=>j≠0/\k (.d (.int (i.fmod j)))
 |_,_=>False
def opPow:Op2:=λx y k=>match x,y with
 |.int i,.int j=>0<=j/\j<=1000000/\i.natAbs<2^64/\k (.d (.int (i^j.toNat)))
 |_,_=>False
def opLt:Op2:=λx y k=>match x,y with
 |.int i,.int j=>k (.d (.bl (decide (i<j))))
 |_,_=>False
def opLe:Op2:=λx y k=>match x,y with
 |.int i,.int j=>k (.d (.bl (decide (i<=j))))
 |_,_=>False
def opGt:Op2:=λx y k=>match x,y with
 |.int i,.int j=>k (.d (.bl (decide (j<i))))
 |_,_=>False
def opGe:Op2:=λx y k=>match x,y with
 |.int i,.int j=>k (.d (.bl (decide (j<=i))))
 |_,_=>False
theorem bitsOk_ok{i j:Int}(h1:bitsOk i)(h2:bitsOk j):IntMulOk i j:=IntMulOk.of_le (PySem.intBits_le_iff.mpr h1) (PySem.intBits_le_iff.mpr h2) ze
theorem opr_mul:OpR X (binaryOp .Mult) (rI (λi j=>bitsOk i/\bitsOk j) λi j=>.int (i*j)):=opI λ_ _ _ _ _ _ _ hc q=>mul_int q (bitsOk_ok hc.1 hc.2)
theorem opr_div:OpR X (binaryOp .FloorDiv) (rI (λi j=>j≠0/\j.natAbs<2^9000) λi j=>.int (i.fdiv j)):=opI λi j _ _ _ _ _ hc q=>floordiv_int hc.1 q (.inl (PyProof.noPylong_of_log2 ((Nat.log2_lt (by have:=hc.1;omega)).mpr hc.2)))
theorem opr_cat:OpR X (binaryOp .Add) (λx y H Q=>∃l b xs zs,x=.ref l/\y=.ref b/\SqL X.K H l xs/\SqL X.K H b zs/\xs.length+zs.length<=sizeLine/\∀p,H p=none->Q (.ref p) (upd H p (.lst (xs++zs)))):=by
 intro ae s σ H x y v u Q I rx ry h;obtain⟨l,b,xs,zs,rfl,rfl,hH,hB,hz,q⟩:=h;cases rx;cases ry;obtain⟨its,r,⟨o,n,e,c,d,f⟩,z⟩:=I.list hH;obtain⟨its2,r2,⟨o2,n2,e2,c2,d2,f2⟩,z2⟩:=I.list hB;obtain⟨cl,dd,dt,sl⟩:=o;obtain⟨cl2,dd2,dt2,sl2⟩:=o2;simp only at c f c2 f2;subst c f c2 f2;have hl:=r.length;have hl2:=r2.length;refine concat_meets ⟨_,e,rfl⟩ ⟨_,e2,rfl⟩ noFill_list_add seq_list_add PySem.F.slot_list_add PySem.F.entry_list_add (PySem.F.args_list_add_2 _ _) (list_addW l b its.toArray its2.toArray n n2 dd dd2 sl sl2 (by rw[aw,aw];omega)) ⟨e,e2,?_⟩;have ea:its.toArray++its2.toArray=(its++its2).toArray:=by simp
 rw[ea];exact⟨.ref _,_,I.lnew (t':=s.toks) (r.append r2) (by rw[bA];omega),rfl,q _ I.fresh⟩
theorem opAdd_is{x y:D}{k:L->Prop}(h:opAdd x y k):(∃i j,x=.int i/\y=.int j/\k (.d (.int (i+j))))∨(∃i j,x=.str i/\y=.str j/\i.length+j.length<=sizeLine/\k (.d (.str (i++j))))∨∃xs ys,x=.lst xs/\y=.lst ys/\xs.length+ys.length<=sizeLine/\∀a,k (.own a (xs++ys)):=by
 unfold opAdd at h;split at h
 . exact .inl ⟨_,_,rfl,rfl,h⟩
 . exact .inr (.inl ⟨_,_,rfl,rfl,h⟩)
 . exact .inr (.inr ⟨_,_,rfl,rfl,h⟩)
 . exact h.elim
theorem od_addI:OpD X (binaryOp .Add) (λx y k=>∃i j,x=.int i/\y=.int j/\k (.d (.int (i+j)))):=OpD.of op_add λσ H Pr Z x y dx dy ag E px py ⟨i,j,e1,e2,h⟩=>by subst e1 e2;cases px;cases py;exact⟨i,j,rfl,rfl,_,E.cons_d (.int _),h⟩
theorem od_addS:OpD X (binaryOp .Add) (λx y k=>∃i j,x=.str i/\y=.str j/\i.length+j.length<=sizeLine/\k (.d (.str (i++j)))):=OpD.of op_add_str λσ H Pr Z x y dx dy ag E px py ⟨i,j,e1,e2,z,h⟩=>by subst e1 e2;cases px;cases py;exact⟨i,j,rfl,rfl,z,_,E.cons_d (.str _),h⟩
theorem od_addL:OpD X (binaryOp .Add) (λx y k=>∃xs ys,x=.lst xs/\y=.lst ys/\xs.length+ys.length<=sizeLine/\∀a,k (.own a (xs++ys))):=OpD.of opr_cat λσ H Pr Z x y dx dy ag E px py ⟨xs,ys,e1,e2,z,h⟩=>by
 subst e1 e2
 cases px with
 | lst h1 r1 =>
  cases py with
  |lst h2 r2=>exact⟨_,_,_,_,rfl,rfl,h1.l,h2.l,by rw[r1.length,r2.length];exact z,λp hp=>⟨_,E.cons_own hp (r1.append r2),h p⟩⟩
theorem od_add:OpD X (binaryOp .Add) opAdd:=by
 intro ae s σ H Pr Z x y v u dx dy ag I rx ry E px py ho;rcases opAdd_is ho with h|h|h
 . exact od_addI ae s σ H Pr Z x y v u dx dy ag I rx ry E px py h
 . exact od_addS ae s σ H Pr Z x y v u dx dy ag I rx ry E px py h
 . exact od_addL ae s σ H Pr Z x y v u dx dy ag I rx ry E px py h
theorem od_int{f:Value->Value->Sem Value}{C:Int->Int->Prop}{g:Int->Int->V}{gd:Int->Int->D}(h:OpR X f (rI C g))(hg:∀K H i j,Rep K H (g i j) (gd i j)) :
  OpD X f (λx y k=>∃i j,x=.int i/\y=.int j/\C i j/\k (.d (gd i j))) :=
 OpD.of h λσ H Pr Z x y dx dy ag E px py ⟨i,j,e1,e2,z,h⟩=>by subst e1 e2;cases px;cases py;exact⟨i,j,rfl,rfl,z,_,E.cons_d (hg _ _ _ _),h⟩
theorem od_int0{f:Value->Value->Sem Value}{g:Int->Int->V}{gd:Int->Int->D}(h:OpR X f (rI0 g))(hg:∀K H i j,Rep K H (g i j) (gd i j)) :
  OpD X f (λx y k=>∃i j,x=.int i/\y=.int j/\k (.d (gd i j))) :=
 OpD.of h λσ H Pr Z x y dx dy ag E px py ⟨i,j,e1,e2,h⟩=>by subst e1 e2;cases px;cases py;exact⟨i,j,rfl,rfl,_,E.cons_d (hg _ _ _ _),h⟩
theorem od_sub:OpD X (binaryOp .Sub) opSub:=(od_int0 op_sub (gd:=λi j=>.int (i-j)) λ_ _ _ _=>.int _).imp λx y k h=>by
 unfold opSub at h;split at h
 . exact⟨_,_,rfl,rfl,h⟩
 . exact h.elim
theorem od_mul:OpD X (binaryOp .Mult) (λx y k=>∃i j,x=.int i/\y=.int j/\(bitsOk i/\bitsOk j)/\k (.d (.int (i*j)))):=od_int opr_mul (gd:=λi j=>.int (i*j)) λ_ _ _ _=>.int _
def opMulI:Op2:=λx y k=>match x,y with
 |.int i,.int j=>bitsOk i/\bitsOk j/\k (.d (.int (i*j)))
 |_,_=>False
theorem od_mulI:OpD X (binaryOp .Mult) opMulI:=od_mul.imp λx y k h=>by
 unfold opMulI at h;split at h
 . exact⟨_,_,rfl,rfl,⟨h.1,h.2.1⟩,h.2.2⟩
 . exact h.elim
theorem od_div:OpD X (binaryOp .FloorDiv) opDiv:=(od_int opr_div (gd:=λi j=>.int (i.fdiv j)) λ_ _ _ _=>.int _).imp λx y k h=>by
 unfold opDiv at h;split at h
 . exact⟨_,_,rfl,rfl,⟨h.1,h.2.1⟩,h.2.2⟩
 . exact h.elim
theorem od_mod:OpD X (binaryOp .Mod) opMod:=(od_int op_modN (gd:=λi j=>.int (i.fmod j)) λ_ _ _ _=>.int _).imp λx y k h=>by
 unfold opMod at h;split at h
 . exact⟨_,_,rfl,rfl,h.1,h.2⟩
 . exact h.elim
theorem od_pow:OpD X (binaryOp .Pow) opPow:=(od_int op_pow (gd:=λi j=>.int (i^j.toNat)) λ_ _ _ _=>.int _).imp λx y k h=>by
 unfold opPow at h;split at h
 . exact⟨_,_,rfl,rfl,⟨h.1,h.2.1,h.2.2.1⟩,h.2.2.2⟩
 . exact h.elim
theorem od_lt:OpD X (compareOp .Lt) opLt:=(od_int0 op_lt (gd:=λi j=>.bl (decide (i<j))) λ_ _ _ _=>.bl _).imp λx y k h=>by
 unfold opLt at h;split at h
 . exact⟨_,_,rfl,rfl,h⟩
 . exact h.elim
theorem od_le:OpD X (compareOp .LtE) opLe:=(od_int0 op_le (gd:=λi j=>.bl (decide (i<=j))) λ_ _ _ _=>.bl _).imp λx y k h=>by
 unfold opLe at h;split at h
 . exact⟨_,_,rfl,rfl,h⟩
 . exact h.elim
theorem od_gt:OpD X (compareOp .Gt) opGt:=(od_int0 op_gt (gd:=λi j=>.bl (decide (j<i))) λ_ _ _ _=>.bl _).imp λx y k h=>by
 unfold opGt at h;split at h
 . exact⟨_,_,rfl,rfl,h⟩
 . exact h.elim
theorem od_ge:OpD X (compareOp .GtE) opGe:=(od_int0 op_ge (gd:=λi j=>.bl (decide (j<=i))) λ_ _ _ _=>.bl _).imp λx y k h=>by
 unfold opGe at h;split at h
 . exact⟨_,_,rfl,rfl,h⟩
 . exact h.elim
mutual
noncomputable def toP:D->PyData
 |.non=>.none
 |.bl b=>.bool b
 |.int i=>.int i
 |.str x=>.str x
 |.tup xs=>.tuple (toPs xs)
 |.lst xs=>.list (toPs xs)
 |.dct _=>.dict []
 |.exc _ _ _=>.dict []
 |.fn _ _=>.dict []
 |.dk _ _=>.dict []
 |.gf _=>.dict []
noncomputable def toPs:List D->List PyData
 |[]=>[]
 |x::xs=>toP x::toPs xs
end
noncomputable def eqD(x y:D):Bool:=PyData.eqv (toP x) (toP y)
def shapeD(x:D):Prop:=SeqAt.shaped (toP x)=true
def opEq:Op2:=λx y k=>shapeD x/\shapeD y/\k (.d (.bl (eqD x y)))
def opNe:Op2:=λx y k=>shapeD x/\shapeD y/\k (.d (.bl (!eqD x y)))
mutual
theorem reads_of{ae:List (Addr×Obj)}{σ:St}{H:Hp}{s:Shared}(I:Inv X ae σ H s):∀(d:D)(x:V)(u:Value),RelV x u->Rep X.K H x d->(toP d).canLay0=true->∃as,Reads s.heap u (toP d) as
 |.non,_,_,rv,r,_=>by cases r;cases rv;exact⟨_,.none⟩
 |.bl b,_,_,rv,r,_=>by cases r;cases rv;exact⟨_,.bool b⟩
 |.int i,_,_,rv,r,_=>by cases r;obtain⟨t,rfl⟩:=rv;exact⟨_,.int i t⟩
 |.str z,_,_,rv,r,_=>by cases r;obtain⟨t,rfl⟩:=rv;exact⟨_,.str z t⟩
 | .tup xs,_,_,rv,r,hc=>by
  cases r with
  | tup h rs =>
   cases rv
   obtain⟨its,vs,⟨o,e,c,n,d⟩,_⟩:=I.tuple h
   obtain⟨as,ra⟩:=readsAll_of I xs _ _ vs rs hc
   exact⟨_,.tuple (xs:=toPs xs) e c d (by simpa using ra)⟩
 | .lst xs,_,_,rv,r,hc=>by
  cases r with
  | lst h rs =>
   cases rv
   obtain⟨its,vs,⟨o,n,e,c,_,d⟩,_⟩:=I.list h.l
   obtain⟨as,ra⟩:=readsAll_of I xs _ _ vs rs hc
   exact⟨_,.list (xs:=toPs xs) e c d (by simpa using ra)⟩
 |.dct _,_,_,_,_,hc=>nomatch hc
 |.exc _ _ _,_,_,_,_,hc=>nomatch hc
 |.fn _ _,_,_,_,_,hc=>nomatch hc
 |.dk _ _,_,_,_,_,hc=>nomatch hc
 |.gf _,_,_,_,_,hc=>nomatch hc
theorem readsAll_of{ae:List (Addr×Obj)}{σ:St}{H:Hp}{s:Shared}(I:Inv X ae σ H s):∀(ds:List D)(vs:List V)(us:List Value),Vals vs us->Reps X.K H vs ds->PyData.canLayAll0 (toPs ds)=true->∃as,ReadsAll s.heap us (toPs ds) as
 |[],_,_,rv,r,_=>by cases r;cases rv;exact⟨_,.nil⟩
 | d::ds,_,_,rv,r,hc=>by
  have hc':(toP d).canLay0=true/\PyData.canLayAll0 (toPs ds)=true:=by simpa[toPs,PyData.canLayAll0]using hc
  cases r with
  | cons r0 rs =>
   cases rv with
   | cons v0 vs =>
    obtain⟨as,ra⟩:=reads_of I d _ _ v0 r0 hc'.1
    obtain⟨bs,rb⟩:=readsAll_of I ds _ _ vs rs hc'.2
    exact⟨_,.cons ra rb⟩
end
theorem od_eq(hu:X.A.units+64<cLine):OpD X (compareOp .Eq) opEq:=by intro ae s σ H Pr Z x y v u dx dy ag I rx ry E px py ⟨h1,h2,ho⟩;obtain⟨as,ra⟩:=reads_of I dx x v rx px (a6 h1);obtain⟨bs,rb⟩:=reads_of I dy y u ry py (a6 h2);exact eq_dataH ra rb h1 h2 hu ⟨.bl _,H,_,I,rfl,E.cons_d (.bl _),ho⟩
theorem od_ne(hu:X.A.units+64<cLine):OpD X (compareOp .NotEq) opNe:=by intro ae s σ H Pr Z x y v u dx dy ag I rx ry E px py ⟨h1,h2,ho⟩;obtain⟨as,ra⟩:=reads_of I dx x v rx px (a6 h1);obtain⟨bs,rb⟩:=reads_of I dy y u ry py (a6 h2);exact ne_dataH ra rb h1 h2 hu ⟨.bl _,H,_,I,rfl,E.cons_d (.bl _),ho⟩
noncomputable def anyEq(x:D)(xs:List D):Bool:=xs.any λy=>eqD y x
def opIx:Op2:=λx y k=>match x,y with
 |.lst xs,.int i=>∃v,atI xs i=some v/\k (.d v)
 |.tup xs,.int i=>∃v,atI xs i=some v/\k (.d v)
 |.str z,.int i=>z.length<=sizeLine/\∃c,atI z.cps.toList i=some c/\k (.d (.str ⟨#[c]⟩))
 |_,_=>False
theorem atI_rep{K:PySem.W.Frag}{H:Hp}{vs:List V}{xs:List D}(r:Reps K H vs xs){i:Int}{x:D}(h:atI xs i=some x):∃v,atI vs i=some v/\Rep K H v x:=by
 unfold atI at h ⊢;rw[r.length]
 cases q:ixN xs.length i with
 |none=>rw[q]at h;cases h
 | some j =>
  rw[q]at h;exact r.get h
theorem opIx_is{x y:D}{k:L->Prop}(h:opIx x y k):∃i,y=.int i/\((∃xs,x=.lst xs/\∃v,atI xs i=some v/\k (.d v))∨(∃xs,x=.tup xs/\∃v,atI xs i=some v/\k (.d v))∨∃z,x=.str z/\z.length<=sizeLine/\∃c,atI z.cps.toList i=some c/\k (.d (.str ⟨#[c]⟩))):=by
 unfold opIx at h;split at h
 . exact⟨_,rfl,.inl ⟨_,rfl,h⟩⟩
 . exact⟨_,rfl,.inr (.inl ⟨_,rfl,h⟩)⟩
 . exact⟨_,rfl,.inr (.inr ⟨_,rfl,h⟩)⟩
 . exact h.elim
theorem pl_ix(ha:PL X a ta)(hb:PL X b tb)(hs:PlainIx b):PL X (.Subscript a b pos) (wBin opIx ta tb):=by
 intro ae s σ H Pr Z ag I E h;refine Subscript_ (two (R:=λdx dy Z2=>opIx dx dy λr=>ag r Z2) ha hb I E h λv u s2 x y H2 dx dy Z2 I2 r1 r2 E2 p1 p2 q=>?_);have fin:∀(Q:VK),(∀z H',Q z H'->∃r,REnv X.K Pr H' (some z::σ) (r::Z2)/\ag r Z2)->∀w s',EP X ae σ Q w s'->EL X ae σ Pr ag w s':=λQ hQ w s' ⟨z,H',I',rz,q⟩=>by obtain⟨r,E',p⟩:=hQ z H' q;exact⟨z,H',r,Z2,I',rz,E',p⟩
 have Eσ:=E2.tail.tail;obtain⟨i,rfl,⟨xs,rfl,z,hz',q⟩|⟨xs,rfl,z,hz',q⟩|⟨z,rfl,hz,c,hc,q⟩⟩:=opIx_is q
 .
  cases p2
  cases p1 with
  | lst hz rs =>
   obtain⟨w,hw,rw⟩:=atI_rep rs hz';exact thn (ix_list a b ae s2 σ H2 _ _ v u (λz H'=>z=w/\H'=H2) I2 r1 r2 ⟨_,_,i,w,rfl,rfl,hz.l,hw,rfl,rfl⟩ (hs _ _)) (fin _ λz H' ⟨e1,e2⟩=>by subst e1 e2;exact⟨_,Eσ.cons_d rw,q⟩)
 .
  cases p2
  cases p1 with
  | tup hz rs =>
   obtain⟨w,hw,rw⟩:=atI_rep rs hz';exact thn (ix_tup a b ae s2 σ H2 _ _ v u (λz H'=>z=w/\H'=H2) I2 r1 r2 ⟨_,_,i,w,rfl,rfl,hz,hw,rfl,rfl⟩ (hs _ _)) (fin _ λz H' ⟨e1,e2⟩=>by subst e1 e2;exact⟨_,Eσ.cons_d rw,q⟩)
 . cases p2;cases p1;exact thn (ix_str a b ae s2 σ H2 _ _ v u (λz H'=>z=.str ⟨#[c]⟩/\H'=H2) I2 r1 r2 ⟨z,i,c,rfl,rfl,hz,hc,rfl,rfl⟩ (hs _ _)) (fin _ λz H' ⟨e1,e2⟩=>by subst e1 e2;exact⟨_,Eσ.cons_d (.str _),q⟩)
end
section
variable{X:Cx}{e a b c:Expr}{es:List Expr}{pos p:Pos}{ta:W L}{x:Str}{bs:List (Option Nat)}{t:W (List L)}{id T:String}
abbrev OpN:=List D->(L->Prop)->Prop
def CallD(X:Cx)(f:Value)(op:OpN):Prop :=
 ∀(ae:List (Addr×Obj))(s:Shared)(σ:St)(H Pr:Hp)(Z:Ev)(vs:List V)(us:List Value)(ds:List D)(ag:L->Prop),Inv X ae σ H s->Vals vs us->REnv X.K Pr H σ Z->Reps X.K H vs ds->op ds ag ->
  wpAny (model X.prog X.w) X.A (call f us) (λw s'=>∃z H' r,Inv X ae σ H' s'/\RelV z w/\REnv X.K Pr H' (some z::σ) (r::Z)/\ag r) X.xe s
theorem CallD.of{f:Value}{r:List V->Hp->VK->Prop}{op:OpN}(h:CallR X f r)(q:∀σ H Pr Z vs ds ag,REnv X.K Pr H σ Z->Reps X.K H vs ds->op ds ag->r vs H λz H'=>∃r,REnv X.K Pr H' (some z::σ) (r::Z)/\ag r):CallD X f op :=
 λae s σ H Pr Z vs us ds ag I rv E ps ho=>thn (h ae s σ H vs us _ I rv (q σ H Pr Z vs ds ag E ps ho)) λw s' ⟨z,H',I',rz,r,E',p⟩=>⟨z,H',r,I',rz,E',p⟩
def wCallD(op:OpN)(t:W (List L)):W L:=λZ ag=>t Z λls Z1=>toDs ls λds=>op ds λr=>ag r Z1
theorem pl_callD(hc:CallD X (.builtin id) op)(hg:Gl X x)(hm:X.mg x=none)(hv:bootBuiltins x=some (.builtin id))(ha:PAL X (e::es) bs t) (hn:x≠"__name__":=by decide) (hdb:(x == ("__debug__" : Str))=false:=by decide)
  (he:starEach (e::es) X.env=(false,eval e X.env)::starEach es X.env:=by rfl) (hpl:(backTo pos (starEach es X.env)).any (·.1)=false:=by rfl):PL X (.Call (.Name x p) (e::es) [] pos) (wCallD op t):=by
 intro ae s σ H Pr Z ag I E h;refine bh (ld_blt I hg hm hv ?_ hn hdb);refine PyProof.Rows.callWith_builtin1 (thn (ha pos ae s σ H Pr Z _ I E h) λus s1 ⟨vs,H1,ls,Z1,I1,r1,hl,hb,E1,_,q1⟩=>?_) he hpl;obtain⟨ds,rfl,q2⟩:=toDs_is q1;have af:vs.length=ds.length:=by simpa using hl
 exact thn (hc ae s1 σ H1 Pr Z1 vs us ds _ I1 r1 (E1.drop (by simp[af])) (reps_of af E1) q2) λw s2 ⟨z,H2,r,I2,rz,E2,q⟩=>⟨z,H2,r,Z1,I2,rz,E2,q⟩
theorem pl_callTD(hc:CallD X (.type T) op)(hg:Gl X x)(hm:X.mg x=none)(hv:bootBuiltins x=some (.type T))(ha:PAL X (e::es) bs t) (hn:x≠"__name__":=by decide) (hdb:(x == ("__debug__" : Str))=false:=by decide)
  (he:starEach (e::es) X.env=(false,eval e X.env)::starEach es X.env:=by rfl) (hpl:(backTo pos (starEach es X.env)).any (·.1)=false:=by rfl):PL X (.Call (.Name x p) (e::es) [] pos) (wCallD op t):=by
 intro ae s σ H Pr Z ag I E h;refine bh (ld_blt I hg hm hv ?_ hn hdb);refine PyProof.Rows.callWith_type1 (thn (ha pos ae s σ H Pr Z _ I E h) λus s1 ⟨vs,H1,ls,Z1,I1,r1,hl,hb,E1,_,q1⟩=>?_) he hpl;obtain⟨ds,rfl,q2⟩:=toDs_is q1;have af:vs.length=ds.length:=by simpa using hl
 exact thn (hc ae s1 σ H1 Pr Z1 vs us ds _ I1 r1 (E1.drop (by simp[af])) (reps_of af E1) q2) λw s2 ⟨z,H2,r,I2,rz,E2,q⟩=>⟨z,H2,r,Z1,I2,rz,E2,q⟩
def opLen:OpN:=λds k=>match ds with
 |[.lst xs]=>k (.d (.int xs.length))
 |[.tup xs]=>k (.d (.int xs.length))
 |[.str x]=>x.length<=sizeLine/\k (.d (.int x.length))
 |_=>False
theorem reps1{K:PySem.W.Frag}{H:Hp}{vs:List V}{d:D}(r:Reps K H vs [d]):∃v,vs=[v]/\Rep K H v d:=by
 cases r with
 |cons h t=>cases t;exact⟨_,rfl,h⟩
theorem reps2{K:PySem.W.Frag}{H:Hp}{vs:List V}{d d':D}(r:Reps K H vs [d,d']):∃v w,vs=[v,w]/\Rep K H v d/\Rep K H w d':=by
 cases r with
 | cons h t=>cases t with
  |cons h' t=>cases t;exact⟨_,_,rfl,h,h'⟩
theorem cd_len:CallD X (.builtin "len") opLen:=CallD.of (call_len_seq.or call_len_str) λσ H Pr Z vs ds ag E ps h=>by
 unfold opLen at h;split at h
 .
  obtain⟨v,rfl,r⟩:=reps1 ps
  cases r with
  |lst hz rs=>exact .inl ⟨_,_,rfl,.inl hz.l,_,E.cons_d (.int _),by rw[rs.length];exact h⟩
 .
  obtain⟨v,rfl,r⟩:=reps1 ps
  cases r with
  |tup hz rs=>exact .inl ⟨_,_,rfl,.inr hz,_,E.cons_d (.int _),by rw[rs.length];exact h⟩
 .
  obtain⟨v,rfl,r⟩:=reps1 ps
  cases r with
  |str z=>exact .inr ⟨_,rfl,h.1,_,E.cons_d (.int _),h.2⟩
 . exact h.elim
def opAbs:OpN:=λds k=>match ds with
 |[.int i]=>k (.d (.int (if i<0 then -i else i)))
 |_=>False
theorem cd_abs:CallD X (.builtin "abs") opAbs:=CallD.of call_abs λσ H Pr Z vs ds ag E ps h=>by
 unfold opAbs at h;split at h
 .
  obtain⟨v,rfl,r⟩:=reps1 ps
  cases r with
  |int i=>exact⟨_,rfl,_,E.cons_d (.int _),h⟩
 . exact h.elim
def opMax:OpN:=λds k=>match ds with
 |[.int i,.int j]=>k (.d (.int (if j > i then j else i)))
 |_=>False
def opMin:OpN:=λds k=>match ds with
 |[.int i,.int j]=>k (.d (.int (if j<i then j else i)))
 |_=>False
theorem cd_max(hc:X.calm=true):CallD X (.builtin "max") opMax:=CallD.of (call_max2 hc) λσ H Pr Z vs ds ag E ps h=>by
 unfold opMax at h;split at h
 .
  obtain⟨v,w,rfl,r,r'⟩:=reps2 ps
  cases r with
  | int i=>cases r' with
   |int j=>exact⟨_,_,rfl,_,E.cons_d (.int _),h⟩
 . exact h.elim
theorem cd_min(hc:X.calm=true):CallD X (.builtin "min") opMin:=CallD.of (call_min2 hc) λσ H Pr Z vs ds ag E ps h=>by
 unfold opMin at h;split at h
 .
  obtain⟨v,w,rfl,r,r'⟩:=reps2 ps
  cases r with
  | int i=>cases r' with
   |int j=>exact⟨_,_,rfl,_,E.cons_d (.int _),h⟩
 . exact h.elim
def opInt:OpN:=λds k=>match ds with
 |[.int i]=>k (.d (.int i))
 |[.bl b]=>k (.d (.int (if b then 1 else 0)))
 |_=>False
theorem cd_int:CallD X (.type "int") opInt:=CallD.of call_int1 λσ H Pr Z vs ds ag E ps h=>by
 unfold opInt at h;split at h
 .
  obtain⟨v,rfl,r⟩:=reps1 ps
  cases r with
  |int i=>exact .inl ⟨_,rfl,_,E.cons_d (.int _),h⟩
 .
  obtain⟨v,rfl,r⟩:=reps1 ps
  cases r with
  |bl i=>exact .inr ⟨_,rfl,_,E.cons_d (.int _),h⟩
 . exact h.elim
def opList:OpN:=λds k=>match ds with
 |[.lst xs]=>∀a,k (.own a xs)
 |[.tup xs]=>∀a,k (.own a xs)
 |_=>False
theorem cd_list:CallD X (.type "list") opList:=CallD.of call_list_of λσ H Pr Z vs ds ag E ps h=>by
 unfold opList at h;split at h
 .
  obtain⟨v,rfl,r⟩:=reps1 ps
  cases r with
  |lst hz rs=>exact⟨_,_,rfl,.inl hz.l,λl hl=>⟨_,E.cons_own hl rs,h l⟩⟩
 .
  obtain⟨v,rfl,r⟩:=reps1 ps
  cases r with
  |tup hz rs=>exact⟨_,_,rfl,.inr hz,λl hl=>⟨_,E.cons_own hl rs,h l⟩⟩
 . exact h.elim
def opTuple:OpN:=λds k=>match ds with
 |[.lst xs]=>k (.d (.tup xs))
 |[.tup xs]=>k (.d (.tup xs))
 |_=>False
theorem cd_tuple:CallD X (.type "tuple") opTuple:=CallD.of call_tuple_of λσ H Pr Z vs ds ag E ps h=>by
 unfold opTuple at h;split at h
 .
  obtain⟨v,rfl,r⟩:=reps1 ps
  cases r with
  |lst hz rs=>exact⟨_,_,rfl,.inl ⟨hz.l,λl hl=>⟨_,E.cons_tup hl rs,h⟩⟩⟩
 .
  obtain⟨v,rfl,r⟩:=reps1 ps
  cases r with
  |tup hz rs=>exact⟨_,_,rfl,.inr ⟨hz,_,E.cons_d (.tup hz rs),h⟩⟩
 . exact h.elim
noncomputable def tyD:D->Value
 |.non=>.type "NoneType"
 |.bl _=>.type "bool"
 |.int _=>.type "int"
 |.str _=>.type "str"
 |.tup _=>.type "tuple"
 |.lst _=>.type "list"
 |.dct _=>.type "dict"
 |.exc _ _ _=>.none
 |.fn _ _=>.type "function"
 |.dk _ _=>.type "dict"
 |.gf _=>.type "function"
def TyD(K:PySem.W.Frag)(d:D)(t:Value):Prop:=match d with
 |.exc c _ _=>∃C,t=.ref C/\excStd K c C=true
 |d=>t=tyD d
theorem exc_inst{ae:List (Addr×Obj)}{σ:St}{H:Hp}{s:Shared}{a:Addr}{o:Obj}{u:HO}{C:Addr}{ns:List Str}{vs:List V}(I:Inv X ae σ H s)(h:H a=some (.frz o u))(hc:o.cls=.ref C)(hn:PySem.W.notCls o=true)(hf:XF H o.dict ns vs):∃od,PySem.W.InstAt s.heap a o C od/\∀d,o.dict=some d->∃q,od=some q/\s.heap.get? d=some q:=by
 have e:=(show s.heap.get? a=some o/\_ from I.hok a _ h).1;rcases hf with⟨_,_,z⟩|⟨d,od,z,h2,_⟩
 . exact⟨none,⟨e,hc,hn,by rw[z];trivial⟩,λd q=>by rw[z]at q;cases q⟩
 . have e2:=(show s.heap.get? d=some od/\_ from I.hok d _ h2).1;exact⟨some od,⟨e,hc,hn,by rw[z];exact e2⟩,λd' q=>by rw[z]at q;cases q;exact⟨od,rfl,e2⟩⟩
theorem isinst_D{ae:List (Addr×Obj)}{σ:St}{H:Hp}{s:Shared}{x:V}{u c:Value}{d:D}{b:Bool}{Q:Value->Shared->Prop}{A:Around}{E:Value->Shared->Prop}(I:Inv X ae σ H s)(rx:RelV x u)(r:Rep X.K H x d)(e:∀t,TyD X.K d t->PySem.W.kitOne X.K t c=some b)(h:∀tk,Q (.bool b) {s with toks:=tk}) :
  wpAny (model X.prog X.w) A (call (.builtin "isinstance") [u,c]) Q E s:=by
 cases r with
 |non=>cases rx;exact bp PySem.W.kitx_none I.kIn True.intro (e _ rfl) (λz=>nomatch z) h
 |bl y=>cases rx;exact bp PySem.W.kitx_bool I.kIn True.intro (e _ rfl) (λz=>nomatch z) h
 |int i=>obtain⟨t,rfl⟩:=rx;exact bp PySem.W.kitx_int I.kIn True.intro (e _ rfl) (λz=>nomatch z) h
 |str y=>obtain⟨t,rfl⟩:=rx;exact bp PySem.W.kitx_str I.kIn True.intro (e _ rfl) (λz=>nomatch z) h
 | lst hz rs =>
  cases rx;obtain⟨its,_,⟨o,n,e1,c1,_,_⟩,_⟩:=I.list hz.l;exact bp PySem.W.kitx_list I.kIn ⟨o,e1,c1⟩ (e _ rfl) (λz=>nomatch z) h
 | tup hz rs =>
  cases rx;obtain⟨its,_,⟨o,e1,c1,_⟩,_⟩:=I.tuple hz;exact bp PySem.W.kitx_tuple I.kIn ⟨o,e1,c1⟩ (e _ rfl) (λz=>nomatch z) h
 | @dct a o kvs hz =>
  cases rx;obtain⟨_,_,_,vs,_,o',es,ep,h1,h2,_⟩:=(show ObjOk X.prog X.w H s.heap a (.frz o (.dK kvs))from I.hok a _ hz);exact bp PySem.W.kitx_dict I.kIn ⟨o',h1,h2.1⟩ (e _ rfl) (λz=>nomatch z) h
 | @exc a o u cc C ns vs ds h1 hv hc hn hs hq hf rs =>
  cases rx;obtain⟨od,Ia,_⟩:=exc_inst I h1 hc hn hf;obtain⟨LL,cd,S⟩:=excStd_is hs;exact bp (kitx_exc S) I.kIn ⟨_,_,Ia⟩ (e _ ⟨C,rfl,hs⟩) (λz=>nomatch z) h
 | fn hl hf hq hc hz hd hv hm r =>
  cases rx;exact bp kitx_fn I.kIn ⟨_,(I.hok _ _ hf).1,rfl⟩ (e _ rfl) (λz=>nomatch z) h
 | @dk a' o kvs ds hz rs =>
  cases rx;obtain⟨_,_,_,vs,_,o',es,ep,h1,h2,_⟩:=(show ObjOk X.prog X.w H s.heap a' (.frz o (.dK kvs))from I.hok a' _ hz);exact bp PySem.W.kitx_dict I.kIn ⟨o',h1,h2.1⟩ (e _ rfl) (λz=>nomatch z) h
 | gf hx hl hk =>
  cases rx;exact bp kitx_fn I.kIn ⟨_,I.kIn _ _ hl,rfl⟩ (e _ rfl) (λz=>nomatch z) h
noncomputable def isTy(T:String):D->Bool
 |.non=>T == "NoneType"
 |.bl _=>T == "bool" ||T == "int"
 |.int _=>T == "int"
 |.str _=>T == "str"
 |.tup _=>T == "tuple"
 |.lst _=>T == "list"
 |.dct _=>T == "dict"
 |.exc _ _ _=>(["ValueError","Exception","BaseException","object"]:List String).contains T
 |.fn _ _=>T == "function"
 |.dk _ _=>T == "dict"
 |.gf _=>T == "function"
def opIsT(T:String):D->(L->Prop)->Prop:=λd k=>k (.d (.bl (isTy T d)))
theorem pl_isT{T:String}{y:Str}{py:Pos}(hT:∀ K d t,TyD K d t->PySem.W.kitOne K t (.type T)=some (isTy T d)) (hg:Gl X "isinstance") (hm:X.mg "isinstance"=none) (hy:Gl X y) (hmy:X.mg y=none) (hby:bootBuiltins y=some (.type T)) (ha:PL X a ta)
  (hny:y≠"__name__":=by decide) (hdy:(y == ("__debug__" : Str))=false:=by decide)
  (h1:starEach [a,.Name y py] X.env=(false,eval a X.env)::starEach [.Name y py] X.env:=by rfl) (h2:starEach [.Name y py] X.env=[(false,eval (.Name y py) X.env)]:=by rfl) (hpl:(backTo pos (starEach [.Name y py] X.env)).any (·.1)=false:=by rfl) :
  PL X (.Call (.Name "isinstance" p) [a,.Name y py] [] pos) (wUn (opIsT T) ta):=by
 have cr:CallR X (.builtin "isinstance") (λxs H Q=>∃ x d,xs=[x,.ty T]/\Rep X.K H x d/\Q (.bl (isTy T d)) H):=by intro ae s σ H xs us Q I rv h;obtain⟨x,d,rfl,r,q⟩:=h;obtain⟨u,w,rfl,r1,r2⟩:=vals2 rv;cases r2;exact isinst_D I r1 r (hT _ d) λtk=>⟨.bl _,H,I.tok _,rfl,q⟩
 refine PL.of (pe_callB cr hg hm zd (pa_cons (pl_frz ha).pe (pa_cons (pe_bltn hy hmy hby (v:=.ty T) rfl hny hdy) pa_nil h2) h1) (he:=h1) (hpl:=hpl)) λσ H Pr Z ag E h=>?_
 refine⟨Pr,Z,λr Z1=>match r with
  |.d x=>opIsT T x λr=>ag r Z1
  |_=>False,E,h,λv H' r Z' E' p=>?_⟩
 cases r with
 | d x =>
  obtain⟨_,e1,p1⟩:=E'.head_d;cases e1;exact⟨_,x,rfl,p1,_,Z',E'.tail.cons_d (.bl _),p⟩
 |_=>exact p.elim
end
section
variable{X:Cx}{e a b:Expr}{pos p apos cpos:Pos}{tb te:W L}{x:Str}
theorem REnv.updOwn{K:PySem.W.Frag}{Pr H:Hp}{σ:St}{Z:Ev}{i:Nat}{l:Addr}{xs ys:List D}{vs:List V}(E:REnv K Pr H σ Z)(q:Z[i]?=some (.own l xs))(r:Reps K H vs ys):REnv K Pr (upd H l (.lst vs)) σ (Z.set i (.own l ys)):=by obtain⟨sv,hs,rfl,_⟩:=E.slot q;have hi:i<Z.length:=(ak.mp q).1;have E1:=(E.out q).write r;have E2:=E1.back (i:=i) (by simp[hi]) hs;rw[bM]at E2;exact E2
theorem REnv.ownAt{K:PySem.W.Frag}{Pr H:Hp}{σ:St}{Z:Ev}{i:Nat}{l:Addr}{xs:List D}(E:REnv K Pr H σ Z)(q:Z[i]?=some (.own l xs)):σ[i]?=some (some (.ref l))/\∃vs,H l=some (.lst vs)/\Reps K H vs xs:=by obtain⟨sv,hs,rfl,r⟩:=E.slot q;exact⟨hs,r⟩
def ownV(i:Nat)(Z:Ev)(k:Addr->List D->Prop):Prop:=match Z[i]? with
 |some (.own a xs)=>k a xs
 |_=>False
theorem ownV_is{i:Nat}{Z:Ev}{k:Addr->List D->Prop}(h:ownV i Z k):∃a xs,Z[i]?=some (.own a xs)/\k a xs:=by
 unfold ownV at h
 cases q:Z[i]? with
 |none=>rw[q]at h;exact h.elim
 | some l =>
  rw[q]at h
  cases l with
  |own a xs=>exact⟨a,xs,rfl,h⟩
  |un=>exact h.elim
  |d x=>exact h.elim
  |bx _ _=>exact h.elim
  |dic _ _=>exact h.elim
def wApp(i:Nat)(te:W L):W L:=λZ ag=>ownV i Z λ_ _=>te Z λr Z1=>toD r λy=>ownV i Z1 λa xs=>xs.length<sizeLine/\ag (.d .non) (Z1.set i (.own a (xs++[y])))
theorem pl_append(i:Nat)(he:PL X e te)(hN:X.N[i]?=some x:=by rfl)(hv:Vis X.env.scope x:=by first | exact Or.inl rfl | exact Or.inr (Or.inl rfl) | exact Or.inr (Or.inr rfl)) (hd:(x == ("__debug__" : Str))=false:=by decide)
  (hcd:(x == ("__classdict__" : Str))=false:=by decide) (hs1:starEach [e] X.env=[(false,eval e X.env)]:=by rfl) (hbase:attributeBase (.Name x p) "append" X.env (eval (.Name x p) X.env)=eval (.Name x p) X.env:=by rfl)
  (hfew:((backTo cpos (starEach [e] X.env)).all (λx=>!x.1) && (backToKw cpos (keywordEach [] X.env)).all (λx=>x.1.isSome)
   && decide (([e]).length+([]:List Keyword).length+(if([]:List Keyword).isEmpty then 0 else 1)<30))=true:=by rfl)
  (hline:(apos.endLine == cpos.line)=true:=by rfl) (hplain:(backTo cpos (starEach ([]:List Expr) X.env)).any (·.1)=false:=by rfl) :
  PL X (.Call (.Attribute (.Name x p) "append" apos) [e] [] cpos) (wApp i te):=by
 refine PL.of (pe_bm PySem.F.plainAttrs_list PySem.F.slot_list_append PySem.F.type_list_append mt_append (pe_var hN hv hd hcd) (pa_cons (pl_frz he).pe pa_nil hs1) (hbase:=hbase) (hfew:=hfew) (hline:=hline) (hs:=hs1) (hplain:=hplain)) λσ H Pr Z ag E h=>?_;obtain⟨l,xs0,q0,h⟩:=ownV_is h;obtain⟨hσ,vs0,hl0,_⟩:=E.ownAt q0
 refine⟨.ref l,hσ,.inl ⟨rfl,vs0,SqL.of hl0⟩,Pr,Z,λr Z1=>match r with
  |.d y=>ownV i Z1 λa xs=>xs.length<sizeLine/\ag (.d .non) (Z1.set i (.own a (xs++[y])))
  |_=>False,E,h,λv H' r Z' E' pp=>?_⟩
 cases r with
 | d y =>
  obtain⟨l',xs,q,af,pp⟩:=ownV_is pp;obtain⟨hσ',vs,hl,r⟩:=E'.tail.ownAt q;rw[hσ]at hσ';cases hσ';obtain⟨_,e1,p1⟩:=E'.head_d;cases e1;exact⟨l,vs,v,rfl,rfl,hl,by rw[r.length];exact af,_,_,(E'.tail.updOwn q (r.append (.cons p1 .nil))).cons_d .non,pp⟩
 |_=>exact pp.elim
def wClear(i:Nat):W L:=λZ ag=>ownV i Z λa _=>ag (.d .non) (Z.set i (.own a []))
theorem pl_clear(i:Nat)(hN:X.N[i]?=some x:=by rfl)(hv:Vis X.env.scope x:=by first | exact Or.inl rfl | exact Or.inr (Or.inl rfl) | exact Or.inr (Or.inr rfl)) (hd:(x == ("__debug__" : Str))=false:=by decide)
  (hcd:(x == ("__classdict__" : Str))=false:=by decide) (hbase:attributeBase (.Name x p) "clear" X.env (eval (.Name x p) X.env)=eval (.Name x p) X.env:=by rfl) (hline:(apos.endLine == cpos.line)=true:=by rfl) :
  PL X (.Call (.Attribute (.Name x p) "clear" apos) [] [] cpos) (wClear i):=by
 refine PL.of (pe_bm0 PySem.F.plainAttrs_list PySem.F.slot_list_clear PySem.F.type_list_clear mt_clear (pe_var hN hv hd hcd) (hbase:=hbase) (hline:=hline)) λσ H Pr Z ag E h=>?_;obtain⟨l,xs0,q0,h⟩:=ownV_is h;obtain⟨hσ,vs0,hl0,_⟩:=E.ownAt q0;exact⟨.ref l,hσ,.inl ⟨rfl,vs0,SqL.of hl0⟩,l,vs0,rfl,rfl,hl0,_,_,(E.updOwn q0 .nil).cons_d .non,h⟩
def wIxV(i:Nat)(tb:W L):W L:=λZ ag=>ownV i Z λ_ _=>tb Z λr Z1=>toInt r λj=>ownV i Z1 λ_ xs=>∃y,atI xs j=some y/\ag (.d y) Z1
theorem pl_ixV(i:Nat)(hb:PL X b tb)(hs:PlainIx b)(hN:X.N[i]?=some x:=by rfl)(hv:Vis X.env.scope x:=by first | exact Or.inl rfl | exact Or.inr (Or.inl rfl) | exact Or.inr (Or.inr rfl)) (hd:(x == ("__debug__" : Str))=false:=by decide)
  (hcd:(x == ("__classdict__" : Str))=false:=by decide):PL X (.Subscript (.Name x p) b pos) (wIxV i tb):=by
 refine PL.of (pe_ix ix_list (pe_var hN hv hd hcd) hb.pe hs) λσ H Pr Z ag E h=>?_;obtain⟨l,xs0,q0,h⟩:=ownV_is h;obtain⟨hσ,vs0,hl0,_⟩:=E.ownAt q0;refine⟨.ref l,hσ,Pr,Z,_,E,h,λv H' r Z' E' pp=>?_⟩;obtain⟨j,rfl,pp⟩:=toInt_is pp;obtain⟨l',xs,q,y,hy,pp⟩:=ownV_is pp;obtain⟨hσ',vs,hl,r⟩:=E'.tail.ownAt q;rw[hσ]at hσ';cases hσ';obtain⟨_,e1,p1⟩:=E'.head_d;cases e1;cases p1;obtain⟨w,hw,rw⟩:=atI_rep r hy;exact⟨l,vs,j,w,rfl,rfl,SqL.of hl,hw,_,Z',E'.tail.cons_d rw,pp⟩
def wLenV(i:Nat):W L:=λZ ag=>ownV i Z λ_ xs=>ag (.d (.int xs.length)) Z
theorem pl_lenV(i:Nat) (hg:Gl X "len") (hm:X.mg "len"=none) (hN:X.N[i]?=some x:=by rfl) (hv:Vis X.env.scope x:=by first | exact Or.inl rfl | exact Or.inr (Or.inl rfl) | exact Or.inr (Or.inr rfl)) (hd:(x == ("__debug__" : Str))=false:=by decide)
  (hcd:(x == ("__classdict__" : Str))=false:=by decide) (h1:starEach [.Name x p] X.env=[(false,eval (.Name x p) X.env)]:=by rfl) (hpl:(backTo pos (starEach ([]:List Expr) X.env)).any (·.1)=false:=by rfl) :
  PL X (.Call (.Name "len" apos) [.Name x p] [] pos) (wLenV i):=by
 refine PL.of (pe_callB call_len_seq hg hm PySem.boot_len (pa_cons (pe_var hN hv hd hcd) pa_nil h1) (he:=h1) (hpl:=hpl)) λσ H Pr Z ag E h=>?_;obtain⟨l,xs0,q0,h⟩:=ownV_is h;obtain⟨hσ,vs0,hl0,r⟩:=E.ownAt q0;exact⟨.ref l,hσ,l,vs0,rfl,.inl (SqL.of hl0),_,Z,E.cons_d (.int _),by rw[r.length];exact h⟩
def wSetV(i:Nat)(tb te:W L):W Fl:=λZ ag=>te Z λr Z1=>toD r λy=>ownV i Z1 λ_ _=>tb Z1 λr Z2=>toInt r λj=>ownV i Z2 λa xs=>∃k,ixN xs.length j=some k/\ag .nx (Z2.set i (.own a (xs.set k y)))
theorem pm_setV(i:Nat){b:Expr}{ps:Pos}(hb:PL X b tb)(he:PL X e te)(hN:X.N[i]?=some x:=by rfl)(hv:Vis X.env.scope x:=by first | exact Or.inl rfl | exact Or.inr (Or.inl rfl) | exact Or.inr (Or.inr rfl)) (hd:(x == ("__debug__" : Str))=false:=by decide)
  (hcd:(x == ("__classdict__" : Str))=false:=by decide)
  (ha:∀v,assign (.Subscript (.Name x p) b ps) X.env v=(do
   let ov <- holding [v] (eval (.Name x p) X.env)
   let iv <- holding [v,ov] (eval b X.env)
   standAt ps
   holding [v,ov,iv] (setItem ov iv v)
   release [v,ov,iv] []):=by intro _;rfl)
  (hs:swapsWithSole [.Subscript (.Name x p) b ps] e pos.line X.env=pure false:=by rfl) (hw:swappedStores [.Subscript (.Name x p) b ps] e X.env=pure none:=by rfl)
  (h1:(assignEach [.Subscript (.Name x p) b ps] X.env).map (·.2)=[assign (.Subscript (.Name x p) b ps) X.env]:=by rfl):PM X (.Assign [.Subscript (.Name x p) b ps] e pos) (wSetV i tb te):=by
 refine PM.of (ps_asg (pl_frz he).pe (pg_sub (pe_var hN hv hd hcd) hb.pe set_list ha) hs hw h1) λσ H Pr Z ag af E h=>?_
 refine⟨Pr,Z,λr Z1=>match r with
  |.d y=>ownV i Z1 λ_ _=>tb Z1 λr Z2=>toInt r λj=>ownV i Z2 λa xs=>∃k,ixN xs.length j=some k/\ag .nx (Z2.set i (.own a (xs.set k y)))
  |_=>False,E,h,λv H' r Z' E' pp=>?_⟩
 cases r with
 | d y =>
  obtain⟨l,xs0,q0,pp⟩:=ownV_is pp;obtain⟨hσ,vs0,hl0,_⟩:=E'.tail.ownAt q0;refine⟨.ref l,hσ,butOwn H' Z',Z',_,E'.tail.wide,pp,λw H2 r2 Z2 E2 pp=>?_⟩;obtain⟨j,rfl,pp⟩:=toInt_is pp;obtain⟨l',xs,q,k,hk,pp⟩:=ownV_is pp;obtain⟨_,e1,p1⟩:=E2.head_d;cases e1;cases p1;have E3:REnv X.K Pr H2 (some (.int j)::some v::σ) (.d (.int j)::.d y::Z2):=REnv.step (τ:=[some v]) (lam:=[.d y]) (w:=[some (.int j)]) (μ:=[.d (.int j)]) E' rfl E2 rfl;obtain⟨_,e1,p1⟩:=E3.tail.head_d;cases e1;obtain⟨hσ',vs,hl,r⟩:=E3.tail.tail.ownAt q;rw[hσ]at hσ';cases hσ';refine⟨l,vs,j,k,rfl,rfl,hl,by rw[r.length];exact hk,_,E3.tail.tail.updOwn q (r.set p1 k),pp⟩
 |_=>exact pp.elim
def wPart:Option (W L)->Ev->(Option Int->Ev->Prop)->Prop
 |none=>λZ k=>k none Z
 |some t=>λZ k=>t Z λr Z1=>toInt r λi=>k (some i) Z1
noncomputable def cutD{α:Type}(xs:List α)(lo hi:Option Int):List α:=(xs.drop (HT.sIx xs.length 0 lo)).take (HT.sIx xs.length xs.length hi-HT.sIx xs.length 0 lo)
end
noncomputable def unsAt:List Nat->Ev->Ev
 |[],Z=>Z
 |j::r,Z=>(unsAt r Z).set j .un
noncomputable def capsOf(fi:List Nat)(Z:Ev):Ev:=fi.map λj=>(Z[j]?).getD .un
noncomputable def capSt(fi:List Nat)(σ:St):St:=fi.map λj=>(σ[j]?).getD none
noncomputable def putAll:List Nat->Ev->Ev->Ev
 |j::r,c::cs,Z=>putAll r cs (Z.set j c)
 |_,_,Z=>Z
theorem unsAt_len:∀(fi:List Nat)(Z:Ev),(unsAt fi Z).length=Z.length
 |[],_=>rfl
 |j::r,Z=>by unfold unsAt;rw[List.length_set,unsAt_len r Z]
theorem unsAt_get:∀(fi:List Nat)(Z:Ev)(j:Nat),j∉fi->(unsAt fi Z)[j]?=Z[j]?
 |[],_,_,_=>rfl
 | i::r,Z,j,h=>by unfold unsAt;rw[bo (λe=>h (by simp[e])),unsAt_get r Z j λe=>h (ai _ e)]
theorem unsAt_un:∀(fi:List Nat)(Z:Ev)(j:Nat),j∈fi->j<Z.length->(unsAt fi Z)[j]?=some .un
 | i::r,Z,j,h,hl=>by
  unfold unsAt;by_cases e:i=j
  . subst e;rw[a7 (by rw[unsAt_len];exact hl)]
  . rw[bo e];exact unsAt_un r Z j ((aD.mp h).resolve_left λz=>e z.symm) hl
section
variable{K:PySem.W.Frag}{Pr H:Hp}{σ:St}{Z:Ev}
theorem REnv.takeAt(E:REnv K Pr H σ Z){i:Nat}{l:L}{s:Option V}(h:Z[i]?=some l)(hs:σ[i]?=some s):REnv K Pr H (s::σ) (l::Z.set i .un):=E.outL h hs
theorem REnv.takes(E:REnv K Pr H σ Z):∀(fi:List Nat),fi.Nodup->(∀j∈fi,j<Z.length)->REnv K Pr H (capSt fi σ++σ) (capsOf fi Z++unsAt fi Z)
 |[],_,_=>E
 | j::r,nd,hl=>by
  have ih:=E.takes r (aP.mp nd).2 λi hi=>hl i (ai _ hi);have hj:j<Z.length:=hl j ao;have hjs:j<σ.length:=by rw[E.len];exact hj
  have e1:(capsOf r Z++unsAt r Z)[r.length+j]?=some Z[j]:=by rw[aA (by simp[capsOf])];simp only[capsOf,aC,aS];rw[unsAt_get r Z j (aP.mp nd).1];exact aE hj
  have e2:(capSt r σ++σ)[r.length+j]?=some σ[j]:=by rw[aA (by simp[capSt])];simp only[capSt,aC,aS];exact aE hjs
  have z:=ih.takeAt e1 e2;rw[List.set_append_right _ _ (by simp[capsOf])]at z;simp only[capsOf,aC,aS]at z;have c1:capSt (j::r) σ=σ[j]::capSt r σ:=by simp[capSt,hjs]
  have c2:capsOf (j::r) Z=Z[j]::capsOf r Z:=by simp[capsOf,hj]
  rw[c1,c2];exact z
theorem REnv.backs:∀(fi:List Nat){cs Z:Ev},fi.Nodup->cs.length=fi.length->(∀j∈fi,Z[j]?=some .un)->(∀j∈fi,j<σ.length)->REnv K Pr H (capSt fi σ++σ) (cs++Z)->REnv K Pr H σ (putAll fi cs Z)
 |[],[],Z,_,_,_,_,E=>E
 | j::r,c::cs,Z,nd,hl,hu,hs,E=>by
  have hjs:j<σ.length:=hs j ao;have hj:=hu j ao;have c1:capSt (j::r) σ=σ[j]::capSt r σ:=by simp[capSt,hjs]
  rw[c1]at E;have hlr:cs.length=r.length:=by simpa using hl
  have z:=REnv.back (σ:=capSt r σ++σ) (Z:=cs++Z) (l:=c) E (i:=r.length+j) (by
   rw[aA zZ,hlr,aS];exact hj) (by
   rw[aA (by simp[capSt])];simp only[capSt,aC,aS]
   exact aE hjs)
  rw[List.set_append_right _ _ zZ,hlr,aS]at z
  exact REnv.backs r (aP.mp nd).2 hlr (λi hi=>by
   rw[bo (λe=>(aP.mp nd).1 (by rw[e];exact hi))];exact hu i (ai _ hi)) (λi hi=>hs i (ai _ hi)) z
 |[],_::_,_,_,hl,_,_,_=>by simp at hl
 |_::_,[],_,_,hl,_,_,_=>by simp at hl
end
noncomputable def clOf(cells:List (Str×Addr)):List (Str×NameKind)->List (Str×Addr)->List (Str×Addr)
 |[],acc=>acc
 |(n,k)::r,acc=>clOf cells r (if k == .free then(match cells.lookup n with|some c=>(n,c)::acc|none=>acc)else acc)
theorem closure_eq{env:Env}:∀(names:List (Str×NameKind))(acc:List (Str×Addr)),(∀x∈names,x.2=.free->∃c,env.cells.lookup x.1=some c) ->
  (forIn names acc λ(x:Str×NameKind) (cs:List (Str×Addr))=>(if x.2 == .free then do let c <- cellOf env x.1;pure (ForInStep.yield ((x.1,c)::cs))else pure (ForInStep.yield cs):Sem (ForInStep (List (Str×Addr)))))=pure (clOf env.cells names acc)
 |[],acc,_=>rfl
 | (n,k)::r,acc,h=>by
  rw[List.forIn_cons];by_cases hk:(k == NameKind.free)=true
  .
   obtain⟨c,hc⟩:=h (n,k) ao (by simpa using hk);have e:cellOf env n=pure c:=by unfold cellOf;rw[show env.cells.lookup n=some c from hc]
   simp only[hk,if_true,e,pure_bind,clOf,hc];exact closure_eq r _ λx hx=>h x (ai _ hx)
  . simp only[hk,clOf,if_false,pure_bind];exact closure_eq r _ λx hx=>h x (ai _ hx)
theorem closureFor_cl{scope:Scope}{env:Env}(h:∀x∈scope.names,x.2=.free->∃c,env.cells.lookup x.1=some c):closureFor scope env=pure (clOf env.cells scope.names []):=by have:=closure_eq (env:=env) scope.names [] h;unfold closureFor;simp only[bind_pure_comp]at this ⊢;rw[this];rfl
theorem clOf_sub{cells:List (Str×Addr)}:∀(names:List (Str×NameKind))(acc:List (Str×Addr)),(∀x c,acc.lookup x=some c->cells.lookup x=some c)->∀x c,(clOf cells names acc).lookup x=some c->cells.lookup x=some c
 |[],acc,h,x,c,e=>h x c e
 | (n,k)::r,acc,h,x,c,e=>by
  unfold clOf at e;refine clOf_sub r _ (λy d ey=>?_) x c e;split at ey
  .
   split at ey
   .
    rename_i q;rw[aO]at ey;split at ey
    .
     rename_i e2;have:y=n:=by simpa using e2
     cases ey;rw[this];exact q
    . exact h y d ey
   . exact h y d ey
  . exact h y d ey
theorem lookup_some_cons{n:Str}{c:Addr}{acc:List (Str×Addr)}{x:Str}(h:∃d,acc.lookup x=some d):∃d,((n,c)::acc).lookup x=some d:=by
 rw[aO];split
 . exact⟨_,rfl⟩
 . exact h
theorem clOf_has{cells:List (Str×Addr)}:∀(names:List (Str×NameKind))(acc:List (Str×Addr))(x:Str),((∃d,acc.lookup x=some d)∨((x,NameKind.free)∈names/\∃c,cells.lookup x=some c))->∃d,(clOf cells names acc).lookup x=some d
 | [],acc,x,h=>by
  rcases h with h|⟨h,_⟩
  . exact h
  . simp at h
 | (n,k)::r,acc,x,h=>by
  unfold clOf;refine clOf_has r _ x ?_;rcases h with h|⟨hm,c,hc⟩
  .
   left;split
   .
    split
    . exact lookup_some_cons h
    . exact h
   . exact h
  .
   rcases aD.mp hm with e|hm
   . cases e;left;simp only[hc,beq_self_eq_true,if_true];exact⟨c,by simp[aO]⟩
   . exact .inr ⟨hm,c,hc⟩
noncomputable def cxComp(X:Cx)(scope:Scope)(cl:List (Str×Addr))(Nb:List Str)(s₀:Shared)(H₀:Hp)(fp:List Addr):Cx :=
 {X with N:=Nb,s₀:=s₀,H₀:=H₀,env:=compEnvC scope cl s₀.heap.objs.size X.env,outer:=X.stack,stack:=X.stack,ex:=fp,fn:=λ_=>false,pn:=[],xe:=λ_ _=>False}
theorem paired_iff{α β:Type}{F:α->β->Prop}:∀{a:List α}{b:List β},Paired F a b↔a.length=b.length/\∀p∈a.zip b,F p.1 p.2
 |[],[]=>⟨λ_=>⟨rfl,λ_ h=>by simp at h⟩,λ_=>.nil⟩
 |[],_::_=>⟨(λh=>nomatch h),λh=>by simp at h⟩
 |_::_,[]=>⟨(λh=>nomatch h),λh=>by simp at h⟩
 | x::a,y::b=>by
  constructor
  .
   intro h
   cases h with
   | cons r t =>
    obtain⟨h1,h2⟩:=paired_iff.mp t
    exact⟨by simp[h1],λp hp=>by
     rw[bC]at hp;rcases aD.mp hp with rfl|hp
     . exact r
     .
      exact h2 p hp⟩
  . rintro⟨hl,h⟩;exact .cons (h (x,y) zY) (paired_iff.mpr ⟨by simpa using hl,λp hp=>h p (by rw[bC];exact ai _ hp)⟩)
theorem owns_zip:∀{σ:St}{Z:Ev},σ.length=Z.length->(σ.zip Z).map (·.2)=Z
 |[],[],_=>rfl
 | _::σ,l::Z,h=>by have ih:=owns_zip (σ:=σ) (Z:=Z) (by simpa using h);rw[bC,a8,ih]
 |[],_::_,h=>by simp at h
 |_::_,[],h=>by simp at h
theorem REnv.rearr{K:PySem.W.Frag}{Pr H:Hp}{σ σ2:St}{Z Z2:Ev}(E:REnv K Pr H σ Z)(hl:σ2.length=Z2.length)(extra:List (Option V×L))(h:(σ.zip Z).Perm (σ2.zip Z2++extra)):REnv K Pr H σ2 Z2:=by
 have pm:(owns Z).Perm (owns Z2++owns (extra.map (·.2))):=by have q:=owns_perm (h.map (·.2));rw[List.map_append,owns_zip E.len,owns_zip hl,owns_append]at q;exact q
 refine⟨E.sub,(aJ.mp (pm.nodup_iff.mp E.nd)).1,λa ha=>E.off a (pm.mem_iff.mpr (av _ ha)),paired_iff.mpr ⟨hl,λp hp=>?_⟩⟩;exact(paired_iff.mp E.sl).2 p (h.mem_iff.mpr (av _ hp))
theorem capSt_app{fi:List Nat}{σ τ:St}(h:∀j∈fi,j<σ.length):capSt fi (σ++τ)=capSt fi σ:=by unfold capSt;refine List.map_congr_left λj hj=>?_;rw[aK (h j hj)]
theorem capsOf_app{fi:List Nat}{σ τ:Ev}(h:∀j∈fi,j<σ.length):capsOf fi (σ++τ)=capsOf fi σ:=by unfold capsOf;refine List.map_congr_left λj hj=>?_;rw[aK (h j hj)]
theorem unsAt_app{τ:Ev}:∀{fi:List Nat}{Z:Ev},(∀j∈fi,j<Z.length)->unsAt fi (Z++τ)=unsAt fi Z++τ
 |[],_,_=>rfl
 | j::r,Z,h=>by unfold unsAt;rw[unsAt_app λi hi=>h i (ai _ hi),List.set_append_left _ _ (by rw[unsAt_len];exact h j ao)]
theorem putAll_app{τ:Ev}:∀{fi:List Nat}{cs Z:Ev},(∀j∈fi,j<Z.length)->putAll fi cs (Z++τ)=putAll fi cs Z++τ
 |[],[],_,_=>rfl
 |[],_::_,_,_=>rfl
 |_::_,[],_,_=>rfl
 | j::r,c::cs,Z,h=>by unfold putAll;rw[List.set_append_left _ _ (h j ao)];exact putAll_app λi hi=>by rw[List.length_set];exact h i (ai _ hi)
theorem lookup_relabel_free {env:Env}:∀{names:List (Str×NameKind)} {x:Str},names.lookup x=some .free →
  (names.map fun (n,k)=>if (k == NameKind.free && env.scope.kind == .function && env.kindOf n == some .cell) then (n,NameKind.cell) else (n,k)).lookup x=some .cell ∨
  (names.map fun (n,k)=>if (k == NameKind.free && env.scope.kind == .function && env.kindOf n == some .cell) then (n,NameKind.cell) else (n,k)).lookup x=some .free
 | [],_,h=>by simp at h
 | (n,k)::r,x,h=>by
  have ih:=@lookup_relabel_free env r x
  rw [a8]
  cases hx:x == n with
  | true =>
   simp only [aO,hx] at h
   cases h
   dsimp only
   by_cases hc:(NameKind.free == NameKind.free && env.scope.kind == .function && env.kindOf n == some .cell)=true
   .
    left;rw [if_pos hc];simp [aO,hx]
   .
    right;rw [if_neg hc];simp [aO,hx]
  | false =>
   simp only [aO,hx] at h
   dsimp only
   by_cases hc:(k == NameKind.free && env.scope.kind == .function && env.kindOf n == some .cell)=true
   .
    rw [if_pos hc];simp only [aO,hx];exact ih h
   .
    rw [if_neg hc];simp only [aO,hx];exact ih h
theorem relabel_mem {env:Env}:∀{names:List (Str×NameKind)} {x:Str} {k:NameKind},(∀y∈names,y.2≠.cell)→(k=.cell∨k=.free) →
  (names.map fun (n,k)=>if (k == NameKind.free && env.scope.kind == .function && env.kindOf n == some .cell) then (n,NameKind.cell) else (n,k)).lookup x=some k→(x,NameKind.free)∈names
 | [],_,_,_,_,h=>by simp at h
 | (n,k0)::r,x,k,hc,hk,h=>by
  rw [a8] at h
  dsimp only at h
  by_cases q:(k0 == NameKind.free && env.scope.kind == .function && env.kindOf n == some .cell)=true
  .
   rw [if_pos q,aO] at h
   have e0:k0=.free:=by
    have:=(bH.mp (bH.mp q).1).1
    simpa using this
   split at h
   .
    rename_i e
    have:x=n:=by simpa using e
    subst this e0
    exact ao
   .
    exact ai _ (relabel_mem (fun y hy=>hc y (ai _ hy)) hk h)
  .
   rw [if_neg q,aO] at h
   split at h
   .
    rename_i e
    have:x=n:=by simpa using e
    subst this
    have e1:k0=k:=by simpa using h
    subst e1
    rcases hk with z|z
    .
     exact absurd z (hc (x,k0) ao)
    .
     subst z;exact ao
   .
    exact ai _ (relabel_mem (fun y hy=>hc y (ai _ hy)) hk h)
section
variable{prog:Program}{w:World}{A:Around}{R:Result->Shared->Prop}
theorem comp_loop{elt target iter:Expr}{ifs:List Expr}{scope:Scope}{pos:Pos}{it acc:Value}{env:Env}(I:Nat->Shared->Prop)
  (turn:∀n s,I n s->wpAny (model prog w) A (pyNext it) (λr s₁=>match r with
   |none=>R (.ok .next) s₁
   | some v=>wpAny (model prog w) A (letOwnedTupleGo target it v) (λ_ s₀=>wpAny (model prog w) A (assign target env v) (λ_ s₂ =>
     wpAny (model prog w) A (forIn ifs true λc r=>if r=true then do let ok <- isTrue c env (eval c env);pure (ForInStep.yield ok)else pure (ForInStep.yield r)) (λok s₃ =>
      if ok=true then wpAny (model prog w) A (eval elt env) (λx s₄ =>
       wpAny (model prog w) A (call (.builtin "list.append") [acc,x]) (λ_ s₅=>∃ m,m < n/\I m s₅) (λ_ _=>False) s₄) (λ_ _=>False) s₃
      else ∃m,m<n/\I m s₃) (λ_ _=>False) s₂) (λ_ _=>False) s₀) (λ_ _=>False) s₁) (λ_ _=>False) s)
  (n:Nat) {s:Shared} (h:I n s) :
  codeAny (model prog w) A (.compLoop (.ListComp elt [⟨target,iter,ifs,0⟩] scope pos) 0 it acc env) R s:=by
 refine codeAny_loop rfl I (λn s hI=>?_) n h
 show wpAny _ A ((compTurn (.ListComp elt [⟨target,iter,ifs,0⟩] scope pos) 0 it acc env).onRaise (λx=>do noteFrame x env;theTreesLotGoes x)) _ _ s
 refine wpAny_noted ?_;rw[compTurn_list];have fe:∀{α:Type}{t:Sem α}{Q:α->Shared->Prop}{E:Value->Shared->Prop}{s:Shared},wpAny (model prog w) A t Q (λ_ _=>False) s->wpAny (model prog w) A t Q E s:=λh=>bu h (λ_ _ q=>q) λ_ _ z=>z.elim;refine ah (cj (ah (bu (turn n s hI) (λr s₁ h₁=>?_) λ_ _ h'=>h'.elim)))
 cases r with
 |none=>exact ar h₁
 | some v =>
  refine ah (bu h₁ (λ_ s₀ h₀=>?_) λ_ _ z=>z.elim);refine ah (bu h₀ (λ_ s₂ h₂=>ah (bu h₂ (λok s₃ h₃=>?_) λ_ _ h'=>h'.elim)) λ_ _ h'=>h'.elim)
  cases ok with
  |false=>exact ar ⟨rfl,h₃⟩
  | true =>
   exact ah (ah (bu h₃ (λx s₄ h₄=>ah (bu h₄ (λ_ s₅ h₅=>ar (ar ⟨rfl,h₅⟩)) λ_ _ h'=>h'.elim)) λ_ _ h'=>h'.elim))
end
def PTc(X:Cx)(tg:Expr)(n:Nat)(g:Tg):Prop:=∃gg:TG,PG X tg gg/\∀v σ H Pr Z x k,σ.length=X.N.length->REnv X.K Pr H σ Z->Rep X.K H v x->g x Z k->gg v σ H λσ' H'=>H'=H/\σ'.drop n=σ.drop n/\∃Z',REnv X.K Pr H σ' Z'/\k Z'
theorem tc_name{X:Cx}{i n:Nat}{x:Str}{pos:Pos}(hn:i<n)(hN:X.N.Nodup)(hi:X.N[i]?=some x)(hx:Loc X.env.scope x)(hf:X.fn x=true∨X.env.scope.names.lookup x=some .local:=by first|exact .inl rfl|exact .inr rfl|assumption):PTc X (.Name x pos) n (tgName i) :=
 ⟨_,pg_name hN hi hx hf,λv σ H Pr Z x k hl E r h=>⟨rfl,by rw[List.drop_set_of_lt hn],_,(E.cons_d r).store (by rw[hl];exact(ak.mp hi).1),h⟩⟩
def PIf(X:Cx)(ifs:List Expr)(t:W Bool):Prop :=
 ∀(ae:List (Addr×Obj))(s:Shared)(σ:St)(H Pr:Hp)(Z:Ev)(ag:Bool->Ev->Prop),Inv X ae σ H s->REnv X.K Pr H σ Z->t Z ag ->
  wpAny (model X.prog X.w) X.A (forIn ifs true λc r=>if r=true then do let ok <- isTrue c X.env (eval c X.env);pure (ForInStep.yield ok)else pure (ForInStep.yield r)) (EB X ae σ Pr ag) X.xe s
def wTrue:W Bool:=λZ ag=>ag true Z
theorem pif_nil{X:Cx}:PIf X [] wTrue:=λae s σ H Pr Z ag I E h=>wpAny_tests_nil ⟨H,Z,I,E,h⟩
theorem pif_one{X:Cx}{c:Expr}{t:W Bool}(h:PB X c t):PIf X [c] t:=λae s σ H Pr Z ag I E ht=>wpAny_tests_one (h ae s σ H Pr Z ag I E ht)
def compL(g:Tg)(ti:W Bool)(te:W L):List D->Ev->List D->(List D->Ev->Prop)->Prop
 |[],Z,acc,k=>k acc Z
 |x::xs,Z,acc,k=>g x Z λZ1=>ti Z1 λb Z2=>if b=true then te Z2 λr Z3=>toD r λy=>compL g ti te xs Z3 (acc++[y]) k else compL g ti te xs Z2 acc k
def wComp(n:Nat)(fi:List Nat)(src:W (List D))(g:Tg)(ti:W Bool)(te:W L):W L:=λZ ag=>src Z λxs Z1=>xs.length<=sizeLine /\
 compL g ti te xs (List.replicate n .un++capsOf fi Z1) [] λys ρb=>∀a,ag (.own a ys) (putAll fi (ρb.drop n) (unsAt fi Z1))
section
variable{X:Cx}
theorem comp_core {elt tg iter:Expr} {ifs:List Expr} {scope sc:Scope} {pos:Pos} {N Nt Nf:List Str} {fi:List Nat} {src:W (List D)} {g:Tg} {ti:W Bool} {te:W L}
  (hsc:X.env.scope=sc) (hXN:X.N=N) (hc:X.calm=true) (hi:PIL X tg iter src)
  (hkind:scope.kind=.function) (hnames:∀x∈scope.names,x.2=.local→scope.names.lookup x.1=some .local) (hcell:∀y∈scope.names,y.2≠.cell)
  (hfr:∀x∈scope.names,x.2=.free→sc.names.lookup x.1=some .cell∨sc.names.lookup x.1=some .free)
  (hnd:fi.Nodup) (hNf:Nf.map some=fi.map (fun j=>N[j]?)) (hNk:∀x∈Nf,scope.names.lookup x=some .free) (hfl:∀j∈fi,j <N.length)
  (hg:∀cl s₀ H₀ fp,PTc (cxComp X scope cl (Nt++Nf) s₀ H₀ fp) tg Nt.length g) (hti:∀cl s₀ H₀ fp,PIf (cxComp X scope cl (Nt++Nf) s₀ H₀ fp) ifs ti) (hte:∀cl s₀ H₀ fp,PL (cxComp X scope cl (Nt++Nf) s₀ H₀ fp) elt te)
  {ae:List (Addr×Obj)} {s:Shared} {σ:St} {H Pr:Hp} {Z:Ev} {ag:L→Ev→Prop} {use:Option (Value→Sem Unit)} {Q:Value→Shared→Prop} (I:Inv X ae σ H s) (E:REnv X.K Pr H σ Z) (h:wComp Nt.length fi src g ti te Z ag)
  (hRR:∀D C s7 H6 acc Z'' m,Inv X ae σ H6 s7→s7.heap.Ns C m→H6 C=none→C≠X.env.locals→X.s₀.heap.objs.size<=C→(∀x c,X.env.cells.lookup x=some c→c≠C)→(∀p∈X.pn++ae,p.1≠C)→REnv X.K Pr H6 (some (.ref D)::σ) (.own D acc::Z'')→ag (.own D acc) Z'' →
   compPost (model X.prog X.w) X.A X.xe use Q (.ref D) C (.ok .next) s7)
  (hs:∀x,foldedSetIterable iter X.env x=pure x):wpAny (model X.prog X.w) X.A (comprehension (.ListComp elt [⟨tg,iter,ifs,0⟩] scope pos) scope X.env (firstIterPos [⟨tg,iter,ifs,0⟩] pos) (newList []) false (eval iter X.env) use) Q X.xe s:=by
 have hcells:∀x∈scope.names,x.2=.free→∃c,X.env.cells.lookup x.1=some c:=fun x hx hk=>I.ok.has x.1 (by
  show X.env.scope.names.lookup x.1=_∨X.env.scope.names.lookup x.1=_
  rw [hsc];exact hfr x hx hk)
 have hsub:=clOf_sub (cells:=X.env.cells) scope.names [] (fun x c e=>by simp at e)
 refine wpAny_comprehension_free (use:=use) rfl hs (closureFor_cl hcells) hkind hnames (thn (hi ae s σ H Pr Z _ I E h) fun v s1 h1=>thn h1 fun itv s2 h2=>?_)
 obtain ⟨it,fp,tn,J,H2,xs,Z2,e,I2,T,st2,f2,E2,G,af,w0⟩:=h2
 subst e
 refine bJ (T:="list") ?_
 generalize hD:s2.heap.objs.size=D
 have fD:H2 D=none:=by rw [<- hD];exact I2.fresh
 have I3:Inv X ae σ (upd H2 D (.lst [])) { s2 with heap:=s2.heap.push { cls:=.type "list",dict:=none,data:=.seq ([]:List Value).toArray } }:=by
  have:=Inv.lnew (ys:=[]) (its:=[]) (t':=s2.toks) I2 .nil (bP _)
  rw [hD] at this
  exact this
 have E3:=E2.cons_own (p:=D) (vs:=[]) (xs:=[]) fD .nil
 have sz3:(s2.heap.push { cls:=.type "list",dict:=none,data:=.seq ([]:List Value).toArray }).objs.size=D+1:=by rw [Heap.size_push,hD]
 generalize hs3:({ s2 with heap:=s2.heap.push { cls:=.type "list",dict:=none,data:=.seq ([]:List Value).toArray } }:Shared)=s3 at I3
 have hs3h:s3.heap=s2.heap.push { cls:=.type "list",dict:=none,data:=.seq ([]:List Value).toArray }:=by rw [<- hs3]
 have fpD:∀b∈fp,b≠D:=fun b hb=>by
  obtain ⟨o,e,_⟩:=T.obj 0 _ st2 b hb
  rw [<- hD];exact aR (au e)
 have old3:∀b o,s2.heap.get? b=some o→s3.heap.get? b=some o:=fun b o e=>by rw [hs3h];exact aq _ e
 refine wpAny_newFunctionEnv (around:=some X.env) hcell (by intro y hy;simp at hy) (fun h4 hns4 hsb4=>?_) hkind
 have hns4':h4.Ns s3.heap.objs.size (fun _=>none):=by
  have:(fun x=>(([]:List (Str×Value)).reverse.lookup x))=fun _=>(none:Option Value):=by funext x;rfl
  rw [this] at hns4
  exact hns4
 have old4:∀b o,s3.heap.get? b=some o→h4.get? b=some o:=fun b o e=>by
  rw [hsb4.2 b (aR (au e))];exact aq _ e
 have hσl:σ.length=N.length:=by rw [<- hXN];exact I.len
 have hρ2:σ.length=Z2.length:=E2.len
 have hjσ:∀j∈fi,j <σ.length:=fun j hj=>by rw [hσl];exact hfl j hj
 have hjρ:∀j∈fi,j <Z2.length:=fun j hj=>by rw [<- hρ2];exact hjσ j hj
 have hfpl:∀b∈fp,b <s3.heap.objs.size:=fun b hb=>by
  obtain ⟨o,e,_⟩:=T.obj 0 _ st2 b hb
  exact au (old3 b o e)
 have hlNf:Nf.length=fi.length:=by have:=ck List.length hNf;simpa using this
 have Bok:(cxComp X scope (clOf X.env.cells scope.names []) (Nt++Nf) s3 (upd H2 D (.lst [])) fp).Ok:=by
  refine ⟨I3.ok.mod,hkind,I.ok.glob,I.ok.blt,ay _,fun x y c e1 e2=>I.ok.inj x y c (hsub x c e1) (hsub y c e2),fun x hx=>?_,fun x c hf _=>(aF hf).elim,I.ok.hd,I.ok.frames,.inl rfl,fun b hb=>⟨aR (hfpl b hb),fun x c e=>(f2 b hb).2.2.2.2.1 x c (hsub x c e)⟩,I3.bs,aG I.ok.bsz I3.sz,fun b o e hb=>?_,fun b hb hm=>?_,I3.stack,I3.stkFree,I3.tbs⟩
  .
   have hm:(x,NameKind.free)∈scope.names:=by
    rcases hx with hx|hx
    .
     exact relabel_mem (env:=X.env) hcell (.inl rfl) hx
    .
     exact relabel_mem (env:=X.env) hcell (.inr rfl) hx
   exact clOf_has scope.names [] x (.inr ⟨hm,hcells _ hm rfl⟩)
  .
   rcases (f2 b hb).2.2.2.1 with z|z
   .
    exact I.ok.noex b o e z
   .
    exact absurd (aj (au (I.ok.bs b o e).1) z) (bY _)
  .
   rcases aD.mp (I3.stkSub b hm) with z|z
   .
    exact (f2 b hb).2.1 z
   .
    exact (f2 b hb).2.2.1 z
 have I4:Inv (cxComp X scope (clOf X.env.cells scope.names []) (Nt++Nf) s3 (upd H2 D (.lst [])) fp) [] (List.replicate Nt.length none++capSt fi σ) (upd H2 D (.lst [])) { s3 with heap:=h4,toks:=s3.toks+([]:List (Str×Value)).length }:=by
  refine ⟨Bok,rfl,I3.bare,Un.kept old4,⟨_,hns4',fun i x v e1 e2 e3=>?_⟩,fun x c e=>?_,I3.fresh,fun x c e=>(I3.freeC x c (hsub x c e)).imp id fun z=>⟨rfl,z.2⟩,fun p hp=>absurd (show p∈([]:List (Addr×Obj)) from hp) zY,I3.hok.kept old4,?_⟩
  .
   have e1:(Nt++Nf)[i]?=some x:=e1
   have hi':Nt.length<=i:=by
    by_cases q:i <Nt.length
    .
     rw [aK (by simpa using q),List.getElem?_replicate] at e2
     split at e2<;>cases e2
    .
     omega
   rw [aA hi'] at e1
   rw [aA (by simpa using hi')] at e2
   simp only [List.length_replicate] at e2
   generalize i - Nt.length=k at e1 e2
   have hk:k <fi.length:=by
    have:=(ak.mp e1).1
    omega
   have e4:(Nf.map some)[k]?=(fi.map fun j=>N[j]?)[k]?:=by rw [hNf]
   rw [bw,bw,e1,aE hk] at e4
   have e5:N[fi[k]]?=some x:=by simpa using e4.symm
   have e6:σ[fi[k]]?=some (some v):=by
    unfold capSt at e2
    rw [bw,aE hk] at e2
    have hjl:=hjσ fi[k] (List.getElem_mem hk)
    rw [aE hjl]
    simpa [aE hjl] using e2
   have hxm:x∈Nf:=bG e1
   have hfree:=hNk x hxm
   have hmem:(x,NameKind.free)∈scope.names:=bK hfree
   have hkx:=hfr _ hmem rfl
   obtain ⟨m,_,hl⟩:=I3.loc
   obtain ⟨u,ru,lk⟩:=hl fi[k] x v (by rw [hXN];exact e5) e6 (by rw [hsc];exact .inr hkx)
   refine ⟨u,ru,.inr ⟨lookup_relabel_free (env:=X.env) hfree,?_⟩⟩
   rcases lk with ⟨z,_⟩|⟨_,c,hc1,hc2⟩
   .
    have z:X.env.scope.names.lookup x=some .local:=z
    rw [hsc] at z
    rcases hkx with q|q
    .
     rw [z] at q;cases q
    .
     rw [z] at q;cases q
   .
    obtain ⟨d,hd⟩:=clOf_has (cells:=X.env.cells) scope.names [] x (.inr ⟨hmem,c,hc1⟩)
    have:d=c:=by have:=hsub x d hd;rw [hc1] at this;exact (aW this).symm
    subst this
    obtain ⟨o,ho,hdd⟩:=hc2
    exact ⟨d,hd,o,old4 _ o ho,hdd⟩
  .
   obtain ⟨v,o,ho,hd⟩:=I3.cell x c (hsub x c e)
   exact ⟨v,o,old4 c o ho,hd⟩
  .
   show (List.replicate Nt.length none++capSt fi σ).length=(Nt++Nf).length
   simp [capSt,hlNf]
 have E4:REnv X.K Pr (upd H2 D (.lst [])) (some (.ref D)::(σ++(List.replicate Nt.length none++capSt fi σ))) (.own D []::(unsAt fi Z2++(List.replicate Nt.length .un++capsOf fi Z2))):=by
  have a1:REnv X.K Pr (upd H2 D (.lst [])) (σ++[some (.ref D)]) (Z2++[.own D []]):=E3.rearr (by simp [hρ2]) [] (by
   rw [aV,bq hρ2]
   exact (a9 (l₁:=[(some (V.ref D),L.own D [])]) (l₂:=σ.zip Z2)))
  have a2:=a1.takes fi hnd fun j hj=>by have:=hjρ j hj;simp;omega
  rw [capSt_app hjσ,capsOf_app hjρ,unsAt_app hjρ] at a2
  have a3:=a2.uns Nt.length
  have hcl:(capSt fi σ).length=(capsOf fi Z2).length:=by simp [capSt,capsOf]
  have hul:σ.length=(unsAt fi Z2).length:=by rw [unsAt_len];exact hρ2
  refine a3.rearr (by simp [hul,hcl]) [] ?_
  have l1:(capSt fi σ++(σ++[some (V.ref D)])++List.replicate Nt.length none).zip (capsOf fi Z2++(unsAt fi Z2++[L.own D []])++List.replicate Nt.length L.un)=((capSt fi σ).zip (capsOf fi Z2)++(σ.zip (unsAt fi Z2)++[(some (V.ref D),L.own D [])]))++(List.replicate Nt.length none).zip (List.replicate Nt.length L.un):=by
   rw [bq (by simp only [bA,hcl,hul];rfl),bq hcl,bq hul]
   rfl
  have l2:(some (V.ref D)::(σ++(List.replicate Nt.length none++capSt fi σ))).zip (L.own D []::(unsAt fi Z2++(List.replicate Nt.length L.un++capsOf fi Z2)))=(some (V.ref D),L.own D [])::(σ.zip (unsAt fi Z2)++((List.replicate Nt.length none).zip (List.replicate Nt.length L.un)++(capSt fi σ).zip (capsOf fi Z2))):=by
   rw [bC,bq hul,bq zY]
  rw [aV,l1,l2]
  generalize (capSt fi σ).zip (capsOf fi Z2)=z1
  generalize σ.zip (unsAt fi Z2)=z2
  generalize (List.replicate Nt.length none).zip (List.replicate Nt.length L.un)=z3
  show (z1++(z2++[(some (V.ref D),L.own D [])])++z3).Perm ((some (V.ref D),L.own D [])::(z2++(z3++z1)))
  have p1:(z1++(z2++[(some (V.ref D),L.own D [])])++z3).Perm ((z2++[(some (V.ref D),L.own D [])])++z3++z1):=by
   rw [bg]
   exact a9
  refine p1.trans ?_
  rw [bg,bg]
  exact List.perm_middle
 clear E3
 let B:Cx:=cxComp X scope (clOf X.env.cells scope.names []) (Nt++Nf) s3 (upd H2 D (.lst [])) fp
 have hul:σ.length=(unsAt fi Z2).length:=by rw [unsAt_len];exact hρ2
 have stat:∀{H':Hp},(∀b∈fp,H' b=none)→∀b∈fp,FpOk B [] H' b:=fun hn b hb=>by
  refine ⟨hn b hb,aR (hfpl b hb),fun hm=>?_,.inl hb,fun x c e=>(f2 b hb).2.2.2.2.1 x c (hsub x c e),fun p hp=>absurd (show p∈([]:List (Addr×Obj)) from hp) zY⟩
  rcases aD.mp (I3.stkSub b hm) with z|z
  .
   exact (f2 b hb).2.1 z
  .
   exact (f2 b hb).2.2.1 z
 have loop:∀s5:Shared,s5={ s3 with heap:=h4,toks:=s3.toks+([]:List (Str×Value)).length }→codeAny (model X.prog X.w) X.A (.compLoop (.ListComp elt [⟨tg,iter,ifs,0⟩] scope pos) 0 (.ref it) (.ref D) B.env)
   (compPost (model X.prog X.w) X.A X.xe use Q (.ref D) s3.heap.objs.size) s5:=by
  rintro s5 rfl
  refine comp_loop (fun n s'=>∃i σ' H' Z' acc,n+i=xs.length∧Inv B [] σ' H' s'∧tn i s'.heap∧(∀b∈fp,H' b=none)∧σ'.drop Nt.length=capSt fi σ∧REnv X.K Pr H' (some (.ref D)::(σ++σ')) (.own D acc::(unsAt fi Z2++Z'))∧acc.length<=i ∧
   compL g ti te (xs.drop i) Z' acc fun ys ρb=>∀a,ag (.own a ys) (putAll fi (ρb.drop Nt.length) (unsAt fi Z2))) ?_ xs.length
   ⟨0,_,_,_,[],zZ,I4,T.keep 0 _ _ st2 fun b hb o e=>old4 b o (old3 b o e),fun b hb=>by rw [upd_ne (fpD b hb)];exact (f2 b hb).1,zY,E4,ay _,by simpa using w0⟩
  rintro n s6 ⟨i,σ6,H6,Z6,acc,hn,I6,st6,fr6,dr6,E6,hal,w6⟩
  have pr:Pres H2 H6:=fun b o p e=>by
   have ne:b≠D:=fun z=>by rw [z,fD] at e;cases e
   have e':B.H₀ b=some o:=by show upd H2 D (.lst []) b=some o;rw [upd_ne ne];exact e
   cases o with
   | tup ys=>exact I6.base.tups b ys e'
   | frz ob u=>exact I6.base.frzs b ob u e'
   | tbl t=>exact I6.base.tbls b t e'
   | _=>exact p.elim
  obtain ⟨go,stop⟩:=G H6 pr
  have hτ:(some (V.ref D)::σ).length=(L.own D acc::unsAt fi Z2).length:=by simp [hul]
  by_cases hlt:i <xs.length
  .
   obtain ⟨hgo,hy⟩:=go i xs[i] (aE hlt)
   rw [List.drop_eq_getElem_cons hlt] at w6
   refine thn (T.item B rfl rfl rfl hc i [] s6 σ6 H6 (fun _ _=>False) I6 (stat fr6) st6 hgo) fun r s7 ⟨u,hr,h7⟩=>?_
   subst hr
   refine thn h7 fun _ s8 ⟨x,H8,I8,r8,y8,st8,fr8⟩=>?_
   obtain ⟨gr,rx⟩:=hy x H8 y8
   have I8':=I8.pinned (stat fr8) (T.obj _ _ st8)
   have E8:=E6.grown gr
   have E8a:REnv X.K (butOwn H8 Z6) H8 σ6 Z6:=(REnv.drop (τ:=some (V.ref D)::σ) (lam:=L.own D acc::unsAt fi Z2) E8 hτ).wide
   obtain ⟨gg,hgg,hgs⟩:=hg (clOf X.env.cells scope.names []) s3 (upd H2 D (.lst [])) fp
   refine thn (hgg _ s8 σ6 H8 x u _ I8' r8 (hgs x σ6 H8 _ Z6 xs[i] _ I8.len E8a rx w6)) fun _ s9 ⟨σ9,H9,I9,e9,dr9,Z9,E9,q9⟩=>?_
   subst e9
   have F9:REnv X.K Pr H9 (some (V.ref D)::(σ++σ9)) (L.own D acc::(unsAt fi Z2++Z9)):=REnv.step (τ:=some (V.ref D)::σ) (lam:=L.own D acc::unsAt fi Z2) (w:=[]) (μ:=[]) E8 hτ E9 rfl
   have F9a:REnv X.K (butOwn H9 Z9) H9 σ9 Z9:=(REnv.drop (τ:=some (V.ref D)::σ) (lam:=L.own D acc::unsAt fi Z2) F9 hτ).wide
   refine thn (hti _ _ _ _ _ s9 σ9 H9 _ Z9 _ I9 F9a q9) fun ok sA ⟨HA,ρA,IA,EA,qA⟩=>?_
   have FA:REnv X.K Pr HA (some (V.ref D)::(σ++σ9)) (L.own D acc::(unsAt fi Z2++ρA)):=REnv.step (τ:=some (V.ref D)::σ) (lam:=L.own D acc::unsAt fi Z2) (w:=[]) (μ:=[]) F9 hτ EA rfl
   have again:∀{sZ:Shared} {HZ:Hp} {ρZ:Ev} {acc':List L2.D},Inv B ([]++pinsAt fp s8.heap) σ9 HZ sZ→REnv X.K Pr HZ (some (.ref D)::(σ++σ9)) (.own D acc'::(unsAt fi Z2++ρZ))→acc'.length<=i+1 →
     (compL g ti te (xs.drop (i+1)) ρZ acc' fun ys ρb=>∀a,ag (.own a ys) (putAll fi (ρb.drop Nt.length) (unsAt fi Z2)))→∃m,m <n∧∃i σ' H' Z' acc,m+i=xs.length∧Inv B [] σ' H' sZ∧tn i sZ.heap∧(∀b∈fp,H' b=none)∧σ'.drop Nt.length=capSt fi σ ∧
     REnv X.K Pr H' (some (.ref D)::(σ++σ')) (.own D acc::(unsAt fi Z2++Z'))∧acc.length<=i∧compL g ti te (xs.drop i) Z' acc fun ys ρb=>∀a,ag (.own a ys) (putAll fi (ρb.drop Nt.length) (unsAt fi Z2)):=fun {sZ HZ ρZ acc'} IZ EZ hz qZ=>by
    refine ⟨n - 1,zZ,i+1,σ9,HZ,ρZ,acc',zZ,IZ.unpinned,T.keep _ _ _ st8 fun b hb o e=>(IZ.pin (b,o) (az _ (az _ (mem_pinsAt hb e)))).1,fun b hb=>?_,dr9.trans dr6,EZ,hz,qZ⟩
    obtain ⟨o,e,d⟩:=T.obj _ _ st8 b hb
    exact (IZ.pin (b,o) (az _ (az _ (mem_pinsAt hb e)))).2.1
   cases ok with
   | false =>
    rw [if_neg aF] at qA ⊢
    exact again IA FA zZ qA
   | true =>
    rw [if_pos rfl] at qA ⊢
    have FAa:REnv X.K (butOwn HA ρA) HA σ9 ρA:=(REnv.drop (τ:=some (V.ref D)::σ) (lam:=L.own D acc::unsAt fi Z2) FA hτ).wide
    refine thn (hte _ _ _ _ _ sA σ9 HA _ ρA _ IA FAa qA) fun ux sB qB=>?_
    obtain ⟨vy,HB,y,ρB,IB,rB,EB,qB⟩:=EL.frz (X:=B) (ag:=fun y Z3=>compL g ti te (xs.drop (i+1)) Z3 (acc++[y]) fun ys ρb=>∀a,ag (.own a ys) (putAll fi (ρb.drop Nt.length) (unsAt fi Z2))) qB
    have FB:REnv X.K Pr HB (some vy::(some (V.ref D)::(σ++σ9))) (.d y::(L.own D acc::(unsAt fi Z2++ρB))):=REnv.step (τ:=some (V.ref D)::σ) (lam:=L.own D acc::unsAt fi Z2) (w:=[some vy]) (μ:=[.d y]) FA hτ EB rfl
    obtain ⟨_,e1,p1⟩:=FB.head_d
    cases e1
    have slB:=FB.tail.sl
    cases slB with
    | cons q0 _ =>
     obtain ⟨_,vs,hDB,rvs⟩:=q0
     refine thn (mt_append (X:=B) _ sB σ9 HB (.ref D) [vy] (.ref D) [ux] (fun z H'=>H'=upd HB D (.lst (vs++[vy]))) IB rfl (.cons rB .nil) ⟨D,vs,vy,rfl,rfl,hDB,by rw [rvs.length];omega,rfl⟩) fun _ sC ⟨z,HC,IC,_,eC⟩=>?_
     subst eC
     exact again IC (FB.tail.write (rvs.append (.cons p1 .nil))) (by simp;omega) qB
  .
   have e:i=xs.length:=by omega
   subst e
   refine thn (T.done B rfl rfl rfl hc xs.length [] s6 σ6 H6 (fun _ _=>False) I6 (stat fr6) st6 stop) fun r s7 ⟨hr,I7⟩=>?_
   subst hr
   rw [List.drop_length] at w6
   obtain ⟨m,hm,_⟩:=id I7.loc
   have I8:Inv X ae σ H6 s7:=I3.call' (ch:=fp) I7.os I7.base I7.hok I7.bare fun b hb=>⟨(f2 b hb).2.2.2.1,(f2 b hb).2.1,(f2 b hb).2.2.2.2.1,(f2 b hb).2.2.2.2.2⟩
   have f4:=I3.fpOk (H':=H6) (b:=s3.heap.objs.size) (ay _) I7.free
   .
    have hlen6:σ6.length=Z6.length:=(REnv.drop (τ:=some (V.ref D)::σ) (lam:=L.own D acc::unsAt fi Z2) E6 hτ).len
    have a1:REnv X.K Pr H6 (capSt fi σ++(σ++[some (V.ref D)])) (Z6.drop Nt.length++(unsAt fi Z2++[L.own D acc])):=by
     have hcd:(capSt fi σ).length=(Z6.drop Nt.length).length:=by rw [<- dr6,bc,bc,hlen6]
     refine E6.rearr (by simp [hcd,hul,hlen6]) ((σ6.take Nt.length).zip (Z6.take Nt.length)) ?_
     have l0:σ6.zip Z6=(σ6.take Nt.length).zip (Z6.take Nt.length)++(capSt fi σ).zip (Z6.drop Nt.length):=by
      rw [<- dr6,<- bq (by simp [hlen6]),List.take_append_drop,List.take_append_drop]
     have l1:(some (V.ref D)::(σ++σ6)).zip (L.own D acc::(unsAt fi Z2++Z6))=(some (V.ref D),L.own D acc)::(σ.zip (unsAt fi Z2)++σ6.zip Z6):=by rw [bC,bq hul]
     have l2:(capSt fi σ++(σ++[some (V.ref D)])).zip (Z6.drop Nt.length++(unsAt fi Z2++[L.own D acc]))=(capSt fi σ).zip (Z6.drop Nt.length)++(σ.zip (unsAt fi Z2)++[(some (V.ref D),L.own D acc)]):=by
      rw [bq hcd,bq hul];rfl
     rw [l1,l2,l0]
     generalize (capSt fi σ).zip (Z6.drop Nt.length)=z1
     generalize σ.zip (unsAt fi Z2)=z2
     generalize (σ6.take Nt.length).zip (Z6.take Nt.length)=z3
     have p1:((some (V.ref D),L.own D acc)::(z2++(z3++z1))).Perm ((z2++[(some (V.ref D),L.own D acc)])++(z3++z1)):=by
      rw [bg]
      exact List.perm_middle.symm
     refine p1.trans ?_
     have p2:((z2++[(some (V.ref D),L.own D acc)])++(z3++z1)).Perm ((z3++z1)++(z2++[(some (V.ref D),L.own D acc)])):=a9
     refine p2.trans ?_
     rw [bg]
     exact a9
    have a2:=REnv.backs (σ:=σ++[some (V.ref D)]) (cs:=Z6.drop Nt.length) (Z:=unsAt fi Z2++[L.own D acc]) fi hnd (by rw [bc,<- hlen6,<- bc,dr6];simp [capSt]) (fun j hj=>by
     rw [aK (by rw [unsAt_len];exact hjρ j hj)];exact unsAt_un fi Z2 j hj (hjρ j hj)) (fun j hj=>by have:=hjσ j hj;simp;omega) (by rw [capSt_app hjσ];exact a1)
    rw [putAll_app fun j hj=>by rw [unsAt_len];exact hjρ j hj] at a2
    have hpl:σ.length=(putAll fi (Z6.drop Nt.length) (unsAt fi Z2)).length:=by have:=a2.len;simpa using this
    refine hRR D s3.heap.objs.size s7 H6 acc (putAll fi (Z6.drop Nt.length) (unsAt fi Z2)) m I8 hm f4.1 f4.2.1 I3.sz f4.2.2.2.2.1 f4.2.2.2.2.2 (a2.rearr (by simp [hpl]) [] ?_) (w6 D)
    rw [aV,bq hpl,bC]
    exact a9 (l₂:=[(some (V.ref D),L.own D acc)])
 exact codeAny_compStart_list (loop _ rfl) (T.self _ 0 _ _ _ (T.keep 0 _ _ st2 fun b hb o e=>old4 b o (old3 b o e)) (loop _ rfl))
theorem pl_comp{elt tg iter:Expr}{ifs:List Expr}{scope sc:Scope}{pos:Pos}{N Nt Nf:List Str}{fi:List Nat}{src:W (List D)}{g:Tg}{ti:W Bool}{te:W L}
  (hsc:X.env.scope=sc) (hXN:X.N=N) (hc:X.calm=true) (hi:PIL X tg iter src)
  (hkind:scope.kind=.function) (hnames:∀x∈scope.names,x.2=.local->scope.names.lookup x.1=some .local) (hcell:∀y∈scope.names,y.2≠.cell)
  (hfr:∀x∈scope.names,x.2=.free->sc.names.lookup x.1=some .cell∨sc.names.lookup x.1=some .free)
  (hnd:fi.Nodup) (hNf:Nf.map some=fi.map (λj=>N[j]?)) (hNk:∀x∈Nf,scope.names.lookup x=some .free) (hfl:∀j∈fi,j<N.length)
  (hg:∀cl s₀ H₀ fp,PTc (cxComp X scope cl (Nt++Nf) s₀ H₀ fp) tg Nt.length g) (hti:∀cl s₀ H₀ fp,PIf (cxComp X scope cl (Nt++Nf) s₀ H₀ fp) ifs ti) (hte:∀cl s₀ H₀ fp,PL (cxComp X scope cl (Nt++Nf) s₀ H₀ fp) elt te)
  (hs:∀x,foldedSetIterable iter X.env x=pure x:=by intro _;rfl):PL X (.ListComp elt [⟨tg,iter,ifs,0⟩] scope pos) (wComp Nt.length fi src g ti te):=by
 intro ae s σ H Pr Z ag I E h;rw[eval_ListComp];refine comp_core (use:=none) hsc hXN hc hi hkind hnames hcell hfr hnd hNf hNk hfl hg hti hte I E h (λD C s7 H6 acc Z'' m I7 hm h1 h2 h3 h4 h5 E7 p=>?_) hs;exact⟨m,hm,λh' hsb=>⟨.ref D,H6,_,Z'',I7.turned (t':=s7.toks) (λb o hb e=>(hsb.2 b hb).trans e) h1 (bN (bN h2)) (.inr h3) h4 h5,rfl,E7,p⟩⟩
theorem pm_setC{elt tg iter:Expr}{ifs:List Expr}{scope sc:Scope}{pos spos py:Pos}{y:Str}{j:Nat}{N Nt Nf:List Str}{fi:List Nat}{src:W (List D)}{g:Tg}{ti:W Bool}{te:W L}
  (hN:X.N.Nodup) (hj:X.N[j]?=some y) (hy:Loc X.env.scope y)
  (hsc:X.env.scope=sc) (hXN:X.N=N) (hc:X.calm=true) (hi:PIL X tg iter src)
  (hkind:scope.kind=.function) (hnames:∀x∈scope.names,x.2=.local->scope.names.lookup x.1=some .local) (hcell:∀y∈scope.names,y.2≠.cell)
  (hfr:∀x∈scope.names,x.2=.free->sc.names.lookup x.1=some .cell∨sc.names.lookup x.1=some .free)
  (hnd:fi.Nodup) (hNf:Nf.map some=fi.map (λj=>N[j]?)) (hNk:∀x∈Nf,scope.names.lookup x=some .free) (hfl:∀j∈fi,j<N.length)
  (hg:∀cl s₀ H₀ fp,PTc (cxComp X scope cl (Nt++Nf) s₀ H₀ fp) tg Nt.length g) (hti:∀cl s₀ H₀ fp,PIf (cxComp X scope cl (Nt++Nf) s₀ H₀ fp) ifs ti) (hte:∀cl s₀ H₀ fp,PL (cxComp X scope cl (Nt++Nf) s₀ H₀ fp) elt te)
  (hsw:swapsWith (.ListComp elt [⟨tg,iter,ifs,0⟩] scope pos) (some (.Name y py)) spos.line X.env=pure true:=by rfl) (hf:X.fn y=true∨X.env.scope.names.lookup y=some .local:=by first|exact .inl rfl|exact .inr rfl|assumption)
  (hs:∀x,foldedSetIterable iter X.env x=pure x:=by intro _;rfl):PM X (.Assign [.Name y py] (.ListComp elt [⟨tg,iter,ifs,0⟩] scope pos) spos) (wSet j (wComp Nt.length fi src g ti te)):=by
 intro ae s σ H Pr Z ag I E h;rw[exec_Assign_Name_used _ _ _ _ hsw];refine ah (cj (ah ?_))
 show wpAny _ X.A (do let _ <- comprehension (.ListComp elt [⟨tg,iter,ifs,0⟩] scope pos) scope X.env (firstIterPos [⟨tg,iter,ifs,0⟩] pos) (newList []) false (eval iter X.env) (some (assign (.Name y py) X.env))) _ _ s
 refine ah (thn (comp_core (use:=some (assign (.Name y py) X.env)) (Q:=λ_ s'=>SM X ae Pr ag .next s') (ag:=λr Z1=>ag .nx (Z1.set j r)) hsc hXN hc hi hkind hnames hcell hfr hnd hNf hNk hfl hg hti hte I E h (λD C s7 H6 acc Z'' m I7 hm h1 h2 h3 h4 h5 E7 p=>?_) hs) λ_ s' hq=>ar (ar hq))
 show wpAny _ X.A (assign (.Name y py) X.env (.ref D)) _ _ _;refine wpAny_assign_Name (store_ok2 (v:=.ref D) I7 hN hj hy rfl (λs8 I8 ⟨a,sb,ha⟩=>?_) hf)
 have hCa:C≠a:=by
  rcases ha with z|z
  . rw[z];exact h2
  . exact λq=>h4 y a z q.symm
 refine⟨m,hm.sameBut sb hCa,λh' hsb=>⟨_,H6,_,I8.turned (t':=s8.toks) (λb o hb e=>(hsb.2 b hb).trans e) h1 h2 (.inr h3) h4 h5,E7.store (by rw[I7.len];exact(ak.mp hj).1),p⟩⟩
end
section
variable{X:Cx}{e a b:Expr}{pos:Pos}{ta tb:W L}{x y:Str}
def wPar(i j:Nat)(ta tb:W L):W Fl:=λZ ag=>ta Z λr Z1=>toD r λv=>tb Z1 λr2 Z2=>toD r2 λw=>ag .nx ((Z2.set i (.d v)).set j (.d w))
theorem pm_par{i j:Nat}{px py pt:Pos} {kt k2 pt2} (hc:X.calm=true) (hN:X.N.Nodup) (hi:X.N[i]?=some x) (hj:X.N[j]?=some y) (hij:i≠j)
  (hx:X.env.scope.names.lookup x=some .local) (hy:X.env.scope.names.lookup y=some .local) (ha:PL X a ta) (hb:PL X b tb)
  (hw:swappedStores [.Tuple [.Name x px,.Name y py] kt pt] (.Tuple [a,b] k2 pt2) X.env=pure (some [x,y]))
  (hs:swapsWithSole [.Tuple [.Name x px,.Name y py] kt pt] (.Tuple [a,b] k2 pt2) pos.line X.env=pure false:=by rfl)
  (h1:starEach [a,b] X.env=(false,eval a X.env)::starEach [b] X.env:=by rfl) (h2:starEach [b] X.env=[(false,eval b X.env)]:=by rfl) :
  PM X (.Assign [.Tuple [.Name x px,.Name y py] kt pt] (.Tuple [a,b] k2 pt2) pos) (wPar i j ta tb):=by
 refine PM.of (ps_par hc hN hi hj hij hx hy (pa_cons (pl_frz ha).pe (pa_cons (pl_frz hb).pe pa_nil h2) h1) hw hs) λσ H Pr Z ag af E h=>?_
 refine⟨Pr,Z,λr Z1=>match r with
  |.d v=>tb Z1 λr2 Z2=>toD r2 λw=>ag .nx ((Z2.set i (.d v)).set j (.d w))
  |_=>False,E,h,λv H1 r Z1 E1 pp=>?_⟩
 cases r with
 | d dv =>
  refine⟨butOwn H1 Z1,Z1,λr Z2=>match r with
   |.d w=>ag .nx ((Z2.set i (.d dv)).set j (.d w))
   |_=>False,E1.tail.wide,pp,λw H2 r2 Z2 E2 pp=>?_⟩
  cases r2 with
  | d dw =>
   have E3:REnv X.K Pr H2 (some w::some v::σ) (.d dw::.d dv::Z2):=REnv.step (τ:=[some v]) (lam:=[.d dv]) (w:=[some w]) (μ:=[.d dw]) E1 rfl E2 rfl;have il:i<σ.length:=by rw[af];exact(ak.mp hi).1
   have jl:j<σ.length:=by rw[af];exact(ak.mp hj).1
   obtain⟨_,e1,r1⟩:=E3.head_d;cases e1;have E4:REnv X.K Pr H2 (σ.set i (some v)) (Z2.set i (.d dv)):=E3.tail.store il;exact⟨v,w,rfl,_,(E4.cons_d r1).store (by simpa using jl),pp⟩
  |_=>exact pp.elim
 |_=>exact pp.elim
noncomputable def flatD:D->Bool
 |.non=>true | .bl _=>true | .int _=>true | .str _=>true
 |_=>false
noncomputable def eqF:D->D->Bool
 |.non,.non=>true
 |.bl a,.bl b=>a == b
 |.bl a,.int b=>(if a then 1 else 0) == b
 |.int a,.bl b=>a == (if b then 1 else 0)
 |.int a,.int b=>a == b
 |.str a,.str b=>a == b
 |_,_=>false
theorem flat_rep{K:PySem.W.Frag}{H:Hp}{v:V}{d:D}(r:Rep K H v d)(h:flatD d=true):flatV v=true:=by cases r<;>first|rfl|(exact absurd h (by simp[flatD]))
theorem eqF_eq{K:PySem.W.Frag}{H:Hp}{v w:V}{d f:D}(r:Rep K H v d)(q:Rep K H w f)(h:flatD d=true)(h':flatD f=true):eqV v w=eqF d f:=by cases r<;>cases q<;>first|rfl|(exact absurd h (by simp[flatD]))|(exact absurd h' (by simp[flatD]))
noncomputable def inF(x:D)(ys:List D):Bool:=ys.any λy=>eqF y x
theorem inF_eq{K:PySem.W.Frag}{H:Hp}{v:V}{x:D}(r:Rep K H v x)(h:flatD x=true):∀{vs:List V}{ys:List D},Reps K H vs ys->ys.all flatD=true->inV v vs=inF x ys/\vs.all flatV=true
 |_,_,.nil,_=>⟨rfl,rfl⟩
 | _,_,.cons r0 t,ha=>by rw[List.all_cons,aL]at ha;obtain⟨i1,i2⟩:=inF_eq r h t ha.2;unfold inV inF at i1 ⊢;rw[bO,bO,List.all_cons,i1,eqF_eq r0 r ha.1 h,flat_rep r0 ha.1,i2];exact⟨rfl,rfl⟩
def opInF(neg:Bool):Op2:=λx y k=>flatD x=true/\itemsOf y λys=>ys.all flatD=true/\k (.d (.bl (if neg then !inF x ys else inF x ys)))
theorem od_in:OpD X (compareOp .In) (opInF false):=OpD.of op_in_seq λσ H Pr Z x y dx dy ag E px py ⟨hx,h⟩=>by
 cases py with
 | lst hz rs =>
  obtain⟨ha,h⟩:=h;obtain⟨i1,i2⟩:=inF_eq px hx rs ha;exact⟨_,_,rfl,.inl hz.l,flat_rep px hx,i2,_,E.cons_d (.bl _),by rw[i1];exact h⟩
 | tup hz rs =>
  obtain⟨ha,h⟩:=h;obtain⟨i1,i2⟩:=inF_eq px hx rs ha;exact⟨_,_,rfl,.inr hz,flat_rep px hx,i2,_,E.cons_d (.bl _),by rw[i1];exact h⟩
 |_=>exact h.elim
def PO'(X:Cx)(lo:Option Expr)(t:Option (W L)):Prop:=match lo,t with
 |none,none=>True
 |some e,some t=>PL X e t
 |_,_=>False
theorem cutV_reps{K:PySem.W.Frag}{H:Hp}{vs:List V}{xs:List D}(r:Reps K H vs xs)(l u:Option Int):Reps K H (cutV vs l u) (cutD xs l u):=by unfold cutV cutD;rw[r.length];exact(r.drop _).take _
noncomputable def tPO(K:PySem.W.Frag)(t:Option (W L)):TO:=λσ H Q=>∃Pr Z ag,REnv K Pr H σ Z/\wPart t Z ag/\∀i H' Z',REnv K Pr H' σ Z'->ag i Z'->Q i H'
theorem po_of{lo:Option Expr}{t:Option (W L)}(h:PO' X lo t):PO X lo (tPO X.K t):=by
 cases lo with
 | none =>
  cases t with
  | none =>
   intro ae s σ H Q I ⟨Pr,Z,ag,E,hw,q⟩;exact po_none ae s σ H Q I (q none H Z E hw)
  |some t=>exact h.elim
 | some e =>
  cases t with
  |none=>exact h.elim
  | some t =>
   intro ae s σ H Q I ⟨Pr,Z,ag,E,hw,q⟩;refine po_some (PL.pe (show PL X e t from h)) ae s σ H Q I ⟨Pr,Z,_,E,hw,λv H' r Z' E' pp=>?_⟩;obtain⟨i,rfl,pp⟩:=toInt_is pp;obtain⟨_,e1,p1⟩:=E'.head_d;cases e1;cases p1;exact⟨i,rfl,q (some i) H' Z' E'.tail pp⟩
end
def selW{α:Type}(o:Option L)(t u:W α)(Z:Ev)(ag:α->Ev->Prop):Prop:=match o with
 |some (.own _ _)=>t Z ag
 |_=>u Z ag
noncomputable def wIsOwn{α:Type}(i:Nat)(t u:W α):W α:=λZ ag=>selW Z[i]? t u Z ag
theorem selW_own{α:Type}(a:Addr)(xs:List D)(t u:W α)(Z:Ev)(ag:α->Ev->Prop):selW (some (.own a xs)) t u Z ag=t Z ag:=(rfl)
theorem selW_d{α:Type}(x:D)(t u:W α)(Z:Ev)(ag:α->Ev->Prop):selW (some (.d x)) t u Z ag=u Z ag:=(rfl)
theorem selW_bx{α:Type}(a:Option Addr)(ls:List L)(t u:W α)(Z:Ev)(ag:α->Ev->Prop):selW (some (.bx a ls)) t u Z ag=u Z ag:=(rfl)
theorem pl_own{X:Cx}{e:Expr}{i:Nat}{t u:W L}(h:PL X e t)(h':PL X e u):PL X e (wIsOwn i t u):=λae s σ H Pr Z ag I E q=>by
 unfold wIsOwn selW at q;split at q
 . exact h ae s σ H Pr Z ag I E q
 . exact h' ae s σ H Pr Z ag I E q
theorem kit_exc{K:PySem.W.Frag}{c:Str}{C:Addr}{T:String}(h:excStd K c C=true)(hm:PySem.W.kitMeta T=true):PySem.W.kitOne K (.ref C) (.type T)=some ((["ValueError","Exception","BaseException","object"]:List String).contains T):=by obtain⟨L,cd,S⟩:=excStd_is h;unfold PySem.W.kitOne PySem.W.kitCls;rw[if_neg (show ¬((Value.ref C == Value.type T)=true)from λz=>by cases z)];dsimp only;rw[if_pos hm];show PySem.W.mroIn K C (.type T)=_;rw[S.mroIn,xmro_type]
theorem kit_of{T:String}(h0:∀K d,(∀c ns xs,d≠.exc c ns xs)->PySem.W.kitOne K (tyD d) (.type T)=some (isTy T d))(hm:PySem.W.kitMeta T=true):∀K d t,TyD K d t->PySem.W.kitOne K t (.type T)=some (isTy T d):=by
 intro K d t h
 cases d with
 | exc c ns xs =>
  obtain⟨C,e,h⟩:=h;rw[e];exact kit_exc h hm
 |_=>cases h;exact h0 K _ (λ_ _ _ z=>nomatch z)
theorem kit_int:∀ K d t,TyD K d t->PySem.W.kitOne K t (.type "int")=some (isTy "int" d):=kit_of (λK d hd=>by cases d <;> first | rfl | exact absurd rfl (hd _ _ _)) zd
theorem kit_bool:∀ K d t,TyD K d t->PySem.W.kitOne K t (.type "bool")=some (isTy "bool" d):=kit_of (λK d hd=>by cases d <;> first | rfl | exact absurd rfl (hd _ _ _)) zd
theorem kit_str:∀ K d t,TyD K d t->PySem.W.kitOne K t (.type "str")=some (isTy "str" d):=kit_of (λK d hd=>by cases d <;> first | rfl | exact absurd rfl (hd _ _ _)) zd
theorem kit_list:∀ K d t,TyD K d t->PySem.W.kitOne K t (.type "list")=some (isTy "list" d):=kit_of (λK d hd=>by cases d <;> first | rfl | exact absurd rfl (hd _ _ _)) zd
theorem kit_tuple:∀ K d t,TyD K d t->PySem.W.kitOne K t (.type "tuple")=some (isTy "tuple" d):=kit_of (λK d hd=>by cases d <;> first | rfl | exact absurd rfl (hd _ _ _)) zd
def GlobT(K:PySem.W.Frag)(mg:Str->Option Value)(x:Str)(d:D):Prop:=∃v u,mg x=some u/\RelV v u/\∀H,Rep K H v d
theorem pl_G{X:Cx}{x:Str}{d:D}{pos:Pos}(g:GlobT X.K X.mg x d)(hg:Gl X x) (hdb:(x == ("__debug__" : Str))=false:=by decide):PL X (.Name x pos) (wC d):=by obtain⟨v,u,h1,h2,h3⟩:=g;exact pl_glob hg h1 h2 h3 hdb
theorem globS_mk{K:PySem.W.Frag}{mg:Str->Option Value}{x:Str}{s:Str}{t:Tok}(h1:mg x=some (.str s t)):GlobT K mg x (.str s):=⟨.str s,_,h1,⟨t,rfl⟩,λH=>.str s⟩
theorem globI_mk{K:PySem.W.Frag}{mg:Str->Option Value}{x:Str}{s:Int}{t:Tok}(h1:mg x=some (.int s t)):GlobT K mg x (.int s):=⟨.int s,_,h1,⟨t,rfl⟩,λH=>.int s⟩
theorem reps_ints{K:PySem.W.Frag}{H:Hp}:∀ns:List Int,Reps K H (ns.map V.int) (ns.map D.int)
 |[]=>.nil
 |n::ns=>.cons (.int n) (reps_ints ns)
theorem law_start{K:PySem.W.Frag}{H:Hp}{a:Addr}{ns:List Int}{fs:FS}{n:Nat}(hl:ns.length<=n)(hO:Only H)(hS:SqL K H a (ns.map V.int))(h:fs [.d (.lst (ns.map .int))] (λr _=>r=.d (.bl true))):spF K 1 fs [.ref a] H (λv _=>v=.bl true) λ_ _ _=>False:=by
 have hz:SqZ K H a (ns.map V.int):=by
  rcases hS with(h|⟨o,h⟩)|h
  .
   rcases hO a with z|⟨o,xs,z⟩|⟨q,z⟩
   . rw[z]at h;cases h
   . rw[z]at h;cases h
   . rw[z]at h;cases h
  . exact .inl ⟨o,h⟩
  . exact .inr h
 refine⟨rfl,λ_=>none,[.d (.lst (ns.map .int))],_,⟨(λb o e=>nomatch e),(show([]:List Addr).Nodup from List.nodup_nil),(λa h=>absurd (show a∈([]:List Addr)from h) zY),.cons ⟨.ref a,rfl,.lst hz (reps_ints ns)⟩ .nil⟩,h,λv H' r ls' E p=>?_⟩;subst p;obtain⟨_,e,r⟩:=E.head_d;cases e;cases r;rfl
end L2
namespace L2
open PySem
theorem gcd_fmod(a b:Int):Int.gcd b (a.fmod b)=Int.gcd a b:=by rw[Int.fmod_def,Int.gcd_sub_mul_left_right,Int.gcd_comm]
theorem natAbs_fmod_lt(a:Int){b:Int}(h:b≠0):(a.fmod b).natAbs<b.natAbs:=by
 rw[Int.fmod_eq_emod];have h1:=Int.emod_nonneg a h;have h2:a % b<(b.natAbs:Int):=Int.emod_lt a h;split
 . omega
 . rename_i q;have:a % b≠0:=λe=>q (.inr (Int.dvd_of_emod_eq_zero e));omega
noncomputable def frD(q:Rat):D:=.tup [.int q.num,.int (q.den:Int)]
theorem gcd_pos{t b:Int}(h:b≠0):0<Int.gcd t b:=Int.gcd_pos_of_ne_zero_right _ h
noncomputable def shareOf(t b:Int):Int:=if b<0 then -(Int.gcd t b:Int)else(Int.gcd t b:Int)
theorem share_ne{t b:Int}(h:b≠0):shareOf t b≠0:=by have:=gcd_pos (t:=t) h;unfold shareOf;split<;>omega
theorem share_abs(t b:Int):(shareOf t b).natAbs=Int.gcd t b:=by unfold shareOf;split<;>omega
theorem share_le{t b:Int}(h:b≠0):(shareOf t b).natAbs<=b.natAbs:=by rw[share_abs];exact Nat.le_of_dvd zZ (by have:=Int.gcd_dvd_right t b;exact Int.natAbs_dvd_natAbs.mpr this |> λq=>by simpa using q)
theorem fdiv_neg_of{a g:Int}(hg:g≠0)(h:g∣a):a.fdiv (-g)=-(a / g):=by obtain⟨k,rfl⟩:=h;rw[Int.mul_ediv_cancel_left _ hg,show g*k=(-g)*(-k) by rw[Int.neg_mul_neg],Int.mul_fdiv_cancel_left _ zZ]
theorem low_num{t b:Int}(h:b≠0):t.fdiv (shareOf t b)=(Rat.divInt t b).num:=by
 have hg:=gcd_pos (t:=t) h;have hd:(Int.gcd t b:Int)∣t:=Int.gcd_dvd_left t b;rw[Rat.num_divInt,Int.gcd_comm b t];unfold shareOf;split
 . rename_i hb;rw[fdiv_neg_of zZ hd,Int.sign_eq_neg_one_of_neg hb,Int.neg_one_mul,Int.neg_ediv_of_dvd hd]
 . rename_i hb;rw[Int.sign_eq_one_of_pos zZ,Int.one_mul,Int.fdiv_eq_ediv_of_nonneg _ zZ]
theorem low_den{t b:Int}(h:b≠0):b.fdiv (shareOf t b)=((Rat.divInt t b).den:Int):=by
 have hg:=gcd_pos (t:=t) h;have hd:(Int.gcd t b:Int)∣b:=Int.gcd_dvd_right t b;rw[Rat.den_divInt,if_neg h,Int.gcd_comm b t,Int.natCast_ediv];unfold shareOf;split
 .
  rename_i hb;rw[fdiv_neg_of zZ hd,<- Int.neg_ediv_of_dvd hd]
  congr 1
  omega
 .
  rename_i hb;rw[Int.fdiv_eq_ediv_of_nonneg _ zZ]
  congr 1
  omega
theorem den_le{t b:Int}(h:b≠0):(Rat.divInt t b).den<=b.natAbs:=by rw[Rat.den_divInt,if_neg h];exact Nat.div_le_self _ _
theorem num_le{t b:Int}(h:b≠0):(Rat.divInt t b).num.natAbs<=t.natAbs:=by rw[<- low_num h];exact PySem.natAbs_fdiv_le _ _
theorem den_pos(q:Rat):0<q.den:=Nat.pos_of_ne_zero q.den_nz
theorem add_eq(p q:Rat):Rat.divInt (p.num*(q.den:Int)+q.num*(p.den:Int)) ((p.den:Int)*(q.den:Int))=p+q:=by have hp:=den_pos p;have hq:=den_pos q;have:=Rat.divInt_add_divInt p.num q.num (d₁:=(p.den:Int)) (d₂:=(q.den:Int)) zZ zZ;rw[bQ,bQ]at this;exact this.symm
def RB(n:Nat)(q:Rat):Prop:=q.num.natAbs<2^n/\q.den<2^n
theorem RB.mono{m n:Nat}{q:Rat}(h:RB m q)(hl:m<=n):RB n q:=⟨aj h.1 (aB ze hl),aj h.2 (aB ze hl)⟩
theorem RB.bn{n:Nat}{q:Rat}(h:RB n q)(hl:n<=1000000):bitsOk q.num:=aj h.1 (aB ze hl)
theorem RB.bd{n:Nat}{q:Rat}(h:RB n q)(hl:n<=1000000):bitsOk (q.den:Int):=by unfold bitsOk;rw[bj];exact aj h.2 (aB ze hl)
theorem mul_lt_pow{a b m n:Nat}(h1:a<2^m)(h2:b<2^n):a*b<2^(m+n):=by rw[Nat.pow_add];exact Nat.mul_lt_mul'' h1 h2
theorem RB.add{m n:Nat}{p q:Rat}(hp:RB m p)(hq:RB n q):RB (m+n+1) (p+q):=by
 have dp:=den_pos p;have dq:=den_pos q;have hne:((p.den:Int)*(q.den:Int))≠0:=Int.mul_ne_zero zZ zZ;rw[<- add_eq p q];have a1:=mul_lt_pow hp.1 hq.2;have a2:=mul_lt_pow hq.1 hp.2;have a3:=mul_lt_pow hp.2 hq.2;have e:(2:Nat)^(m+n+1)=2^(m+n)+2^(m+n):=by rw[Nat.pow_succ];omega
 rw[Nat.add_comm n m]at a2;constructor
 . refine aQ (num_le hne) ?_;refine aQ (Int.natAbs_add_le _ _) ?_;rw[Int.natAbs_mul,Int.natAbs_mul,bj,bj,e];omega
 . refine aQ (den_le hne) ?_;rw[Int.natAbs_mul,bj,bj,e];omega
@[simp] theorem eqD_int(i j:Int):eqD (.int i) (.int j)=decide (i=j):=by simp[eqD,toP,PyData.eqv];by_cases h:i=j<;>simp[h]
@[simp] theorem eqD_str(i j:Str):eqD (.str i) (.str j)=decide (i=j):=by simp[eqD,toP,PyData.eqv];by_cases h:i=j<;>simp[h]
@[simp] theorem eqD_bl(i j:Bool):eqD (.bl i) (.bl j)=decide (i=j):=by simp[eqD,toP,PyData.eqv];cases i<;>cases j<;>rfl
@[simp] theorem shapeD_int(i:Int):shapeD (.int i):=rfl
@[simp] theorem shapeD_bl(i:Bool):shapeD (.bl i):=rfl
@[simp] theorem shapeD_non:shapeD .non:=rfl
mutual
noncomputable def okD:Nat->D->Bool
 |_,.non=>true
 |_,.bl _=>true
 |_,.int _=>true
 |_,.str x=>PyData.strOk x
 |0,.tup _=>false
 |0,.lst _=>false
 |n+1,.tup xs=>okDs n xs
 |n+1,.lst xs=>okDs n xs
 |_,.dct _=>false
 |_,.exc _ _ _=>false
 |_,.fn _ _=>false
 |_,.dk _ _=>false
 |_,.gf _=>false
noncomputable def okDs:Nat->List D->Bool
 |_,[]=>true
 |n,x::xs=>okD n x && okDs n xs
end
mutual
theorem okD_lay:∀(n:Nat)(d:D),okD n d=true->(toP d).canLay0=true/\(toP d).depth<=n
 |_,.non,_=>⟨rfl,bP _⟩
 |_,.bl _,_=>⟨rfl,bP _⟩
 |_,.int _,_=>⟨rfl,bP _⟩
 |_,.str x,h=>⟨by simpa[okD,toP,PyData.canLay0]using h,bP _⟩
 |0,.tup _,h=>by simp[okD]at h
 |0,.lst _,h=>by simp[okD]at h
 | n+1,.tup xs,h=>by
  obtain⟨h1,h2⟩:=okDs_lay n xs (by simpa[okD]using h)
  exact⟨h1,Nat.succ_le_succ h2⟩
 | n+1,.lst xs,h=>by
  obtain⟨h1,h2⟩:=okDs_lay n xs (by simpa[okD]using h)
  exact⟨h1,Nat.succ_le_succ h2⟩
 |_,.dct _,h=>by simp[okD]at h
 |_,.exc _ _ _,h=>by simp[okD]at h
 |_,.fn _ _,h=>by simp[okD]at h
 |_,.dk _ _,h=>by simp[okD]at h
 |_,.gf _,h=>by simp[okD]at h
theorem okDs_lay:∀(n:Nat)(ds:List D),okDs n ds=true->PyData.canLayAll0 (toPs ds)=true/\PyData.depthAll (toPs ds)<=n
 |_,[],_=>⟨rfl,bP _⟩
 | n,d::ds,h=>by
  have h':okD n d=true/\okDs n ds=true:=by simpa[okDs]using h
  obtain⟨a1,a2⟩:=okD_lay n d h'.1
  obtain⟨b1,b2⟩:=okDs_lay n ds h'.2
  exact⟨by simp[toPs,PyData.canLayAll0,a1,b1],by simp only[toPs,PyData.depthAll];omega⟩
end
theorem shape_ok{n:Nat}{d:D}(h:okD n d=true)(hn:n<=64):shapeD d:=by obtain⟨h1,h2⟩:=okD_lay n d h;unfold shapeD SeqAt.shaped;rw[h1,bD zZ];rfl
theorem eqD_tup(xs ys:List D):eqD (.tup xs) (.tup ys)=PyData.eqvAll (toPs xs) (toPs ys):=by simp[eqD,toP,PyData.eqv]
theorem eqD_lst(xs ys:List D):eqD (.lst xs) (.lst ys)=PyData.eqvAll (toPs xs) (toPs ys):=by simp[eqD,toP,PyData.eqv]
theorem eqDs_cons(x y:D)(xs ys:List D):PyData.eqvAll (toPs (x::xs)) (toPs (y::ys))=(eqD x y && PyData.eqvAll (toPs xs) (toPs ys)):=by simp[toPs,PyData.eqvAll,eqD]
theorem eqDs_nil:PyData.eqvAll (toPs []) (toPs [])=true:=by simp[toPs,PyData.eqvAll]
theorem eqD_refl{n:Nat}{d:D}(h:okD n d=true):eqD d d=true:=SeqAt.eqv_refl _ (okD_lay n d h).1
theorem shape_fr(q:Rat):shapeD (frD q):=shape_ok (n:=1) (by simp[frD,okD,okDs]) ze
theorem eqD_fr(p q:Rat):eqD (frD p) (frD q)=decide (p=q):=by
 unfold frD;rw[eqD_tup,eqDs_cons,eqDs_cons,eqDs_nil,eqD_int,eqD_int,Bool.and_true];by_cases h:p=q
 . subst h;simp
 .
  rw[bb h];by_cases h1:p.num=q.num
  . have:¬((p.den:Int)=(q.den:Int)):=λe=>h (Rat.ext h1 zZ);simp[this]
  . simp[h1]
end L2
namespace L2
open PySem PySem.Spec PyProof.Rows
section
variable{X:Cx}{a b c:Expr}{pos p:Pos}{ta tb tc:W L}
def wChain(o o':Op2)(ta tb tc:W L):W L:=λZ ag=>ta Z λr Z1=>toInt r λi=>tb Z1 λr Z2=>toInt r λj=>o (.int i) (.int j) λz=>isBl z λk=>if k=true then tc Z2 λr Z3=>toInt r λl=>o' (.int j) (.int l) λz=>ag z Z3 else ag (.d (.bl false)) Z2
def CmpI(X:Cx)(op:CmpOp)(o:Op2):Prop:=∃f:Int->Int->Bool,OpR X (compareOp op) (rI0 λi j=>.bl (f i j))/\∀i j k,o (.int i) (.int j) k->k (.d (.bl (f i j)))
theorem ci_le:CmpI X .LtE opLe:=⟨_,op_le,λ_ _ _ h=>h⟩
theorem chain_te{op op':CmpOp}{o o':Op2}{f f':Int->Int->Bool}(h1:∀i j k,o (.int i) (.int j) k->k (.d (.bl (f i j))))(h2:∀i j k,o' (.int i) (.int j) k->k (.d (.bl (f' i j))))
  (σ:St) (H Pr:Hp) (Z:Ev) (ag:L->Ev->Prop) (Q:VK) (hQ:∀v H' r Z',REnv X.K Pr H' (some v::σ) (r::Z')->ag r Z'->Q v H') (E:REnv X.K Pr H σ Z) (h:wChain o o' ta tb tc Z ag) :
  tChain (rI0 λi j=>.bl (f i j)) (rI0 λi j=>.bl (f' i j)) (tL X.K ta) (tL X.K tb) (tL X.K tc) σ H Q:=by
 refine⟨Pr,Z,_,E,h,λv H1 r Z1 E1 p=>?_⟩;obtain⟨i,rfl,p⟩:=toInt_is p;obtain⟨_,e1,r1⟩:=E1.head_d;cases e1;cases r1;refine⟨Pr,Z1,_,E1.tail,p,λv H2 r Z2 E2 p=>?_⟩;obtain⟨j,rfl,p⟩:=toInt_is p;obtain⟨_,e1,r1⟩:=E2.head_d;cases e1;cases r1;refine⟨i,j,rfl,rfl,f i j,rfl,?_⟩;have q:=h1 i j _ p
 cases hk:f i j with
 | false =>
  rw[hk]at q;exact hQ _ _ _ Z2 (E2.tail.cons_d (.bl false)) q
 | true =>
  rw[hk]at q;refine⟨Pr,Z2,_,E2.tail,q,λv H3 r Z3 E3 p=>?_⟩;obtain⟨l,rfl,p⟩:=toInt_is p;obtain⟨_,e1,r1⟩:=E3.head_d;cases e1;cases r1;exact⟨j,l,rfl,rfl,hQ _ _ _ Z3 (E3.tail.cons_d (.bl _)) (h2 j l _ p)⟩
theorem pb_chain{op op':CmpOp}{o o':Op2}(ho:CmpI X op o)(ho':CmpI X op' o')(ha:PL X a ta)(hb:PL X b tb)(hc:PL X c tc)(hm:lastMarks [op,op'] [b,c]=false:=by with_unfolding_all rfl) :
  PB X (.Compare a [op,op'] [b,c] pos) (wTest (wChain o o' ta tb tc)):=by
 obtain⟨f,r1,h1⟩:=ho;obtain⟨f',r2,h2⟩:=ho';intro ae s σ H Pr Z ag I E h;refine thn (pt_chain r1 r2 ha.pe hb.pe hc.pe hm ae s σ H (λb H'=>∃Z',REnv X.K Pr H' σ Z'/\ag b Z') I ?_) λb s1 ⟨H1,I1,Z1,E1,p1⟩=>⟨H1,Z1,I1,E1,p1⟩;refine chain_te (op:=op) (op':=op') h1 h2 σ H Pr Z (λr Z1=>isBl r λb=>ag b Z1) _ (λv H' r Z' E' p=>?_) E h;obtain⟨b,rfl,p⟩:=isBl_is p;obtain⟨_,e1,r1⟩:=E'.head_d;cases e1;cases r1;exact⟨b,rfl,Z',E'.tail,p⟩
end
end L2
namespace L2
open PySem PySem.Spec PyProof.Rows PySem.Builtin.Str
section
variable{X:Cx}{a:Expr}{pos p2:Pos}{ta:W L}{x:Str}
theorem sl_str:SlR X (λx lo hi H Q=>∃z,x=.str z/\z.length<=sizeLine/\Q (.str (Txt.slice z lo hi)) H):=by
 intro ae s σ H x v vl vu lo hi sl Q I rx hs pl pu h;obtain⟨z,rfl,hz,q⟩:=h;obtain⟨t,rfl⟩:=rx;refine⟨"str",_,F.slot_str_getitem.lookup,typeIs_str _ _ _,?_⟩
 obtain⟨l',rfl,rfl⟩:∃l':Option (Int×Tok),vl=partValue l'/\lo=l'.map (·.1):=by
  cases pl
  . exact⟨none,rfl,rfl⟩
  . exact⟨some (_,_),rfl,rfl⟩
 obtain⟨u',rfl,rfl⟩:∃l':Option (Int×Tok),vu=partValue l'/\hi=l'.map (·.1):=by
  cases pu
  . exact⟨none,rfl,rfl⟩
  . exact⟨some (_,_),rfl,rfl⟩
 exact wpAny_getItem_str_slice (l:=l') (u:=u') (st:=none) hs rfl (post_val_or_str ⟨aG (Txt.slice_le z _ _) hz,λt' k=>⟨.str _,H,I.tok k,⟨t',rfl⟩,q⟩⟩)
def wSl2(ta:W L)(lo hi:Option (W L)):W L:=λZ ag=>ta Z λr Z1=>toD r λd=>wPart lo Z1 λl Z2=>wPart hi Z2 λu Z3=>match d with
 |.lst xs=>∀a,ag (.own a (cutD xs l u)) Z3
 |.str z=>z.length<=sizeLine/\ag (.d (.str (Txt.slice z l u))) Z3
 |.tup xs=>¬(HT.sIx xs.length 0 l=0/\HT.sIx xs.length xs.length u=xs.length)/\ag (.d (.tup (cutD xs l u))) Z3
 |_=>False
theorem pl_slice2{lo hi:Option Expr}{tl th:Option (W L)}(ha:PL X a ta)(hl:PO' X lo tl)(hh:PO' X hi th):PL X (.Subscript a (.Slice lo hi none p2) pos) (wSl2 ta tl th):=by
 refine PL.of (pe_slice (SlR.or sl_list (SlR.or sl_str sl_tup)) (pl_frz ha).pe (po_of hl) (po_of hh)) λσ H Pr Z ag E h=>?_
 refine⟨Pr,Z,λr Z1=>match r with
  | .d d=>wPart tl Z1 λl Z2=>wPart th Z2 λu Z3=>match d with
   |.lst xs=>∀a,ag (.own a (cutD xs l u)) Z3
   |.str z=>z.length<=sizeLine/\ag (.d (.str (Txt.slice z l u))) Z3
   |.tup xs=>¬(HT.sIx xs.length 0 l=0/\HT.sIx xs.length xs.length u=xs.length)/\ag (.d (.tup (cutD xs l u))) Z3
   |_=>False
  |_=>False,E,h,λv H1 r Z1 E1 pp=>?_⟩
 cases r with
 | d d =>
  obtain⟨_,e1,p1⟩:=E1.head_d;cases e1;refine⟨butOwn H1 Z1,Z1,_,E1.tail.wide,pp,λl H2 Z2 E2 pp=>?_⟩;have F2:REnv X.K Pr H2 (some v::σ) (.d d::Z2):=REnv.step (τ:=[some v]) (lam:=[.d d]) (w:=[]) (μ:=[]) E1 rfl E2 rfl;refine⟨butOwn H2 Z2,Z2,_,F2.tail.wide,pp,λu H3 Z3 E3 pp=>?_⟩;have F3:REnv X.K Pr H3 (some v::σ) (.d d::Z3):=REnv.step (τ:=[some v]) (lam:=[.d d]) (w:=[]) (μ:=[]) F2 rfl E3 rfl;obtain⟨_,e1,p1⟩:=F3.head_d;cases e1
  cases p1 with
  |lst hz rs=>exact .inl ⟨_,_,rfl,hz.l,λq hq=>⟨_,_,F3.tail.cons_own hq (cutV_reps rs l u),pp q⟩⟩
  |str z=>exact .inr (.inl ⟨z,rfl,pp.1,_,_,F3.tail.cons_d (.str _),pp.2⟩)
  |tup hz rs=>exact .inr (.inr ⟨_,_,rfl,hz,by rw[rs.length];exact pp.1,λq hq=>⟨_,_,F3.tail.cons_tup hq (cutV_reps rs l u),pp.2⟩⟩)
  |_=>exact pp.elim
 |_=>exact pp.elim
def rJoin(K:PySem.W.Frag):V->List V->Hp->VK->Prop:=λx vs H Q=>∃z a ys zs,x=.str z/\vs=[.ref a]/\(SqL K H a ys∨SqT K H a ys)/\ys=zs.map V.str/\(zs.map (·.length)).sum+zs.length*z.length<=16777216/\Q (.str (Txt.join z zs)) H
theorem vals_strs:∀{zs:List Str}{us:List Value},Vals (zs.map V.str) us->StrsAre us zs
 |[],_,.nil=>.nil
 | z::zs,_,.cons r t=>by obtain⟨t',rfl⟩:=r;exact .cons z t' (vals_strs t)
theorem mt_join:MtR X "str.join" (rJoin X.K):=by
 intro ae s σ H x vs v us Q I rx rv h;obtain⟨z,a,ys,zs,rfl,rfl,hq,rfl,hz,q⟩:=h;obtain⟨t,rfl⟩:=rx;obtain⟨u,rfl,ru⟩:=rv.one;cases ru;rcases hq with hq|hq
 . obtain⟨its,r,pl,_⟩:=I.list hq;exact join_list pl.isList (by simpa using vals_strs r) hz λt' k=>⟨.str _,H,I.tok k,⟨t',rfl⟩,q⟩
 . obtain⟨its,r,pl,_⟩:=I.tuple hq;exact join_tuple pl (by simpa using vals_strs r) hz λt' k=>⟨.str _,H,I.tok k,⟨t',rfl⟩,q⟩
end
section
variable{X:Cx}{e:Expr}{apos cpos:Pos}{te:W L}{x:Str}
def wJoin(z:Str)(te:W L):W L:=λZ ag=>te Z λr Z1=>toD r λd=>itemsOf d λxs=>∃zs,xs=zs.map D.str/\(zs.map (·.length)).sum+zs.length*z.length<=16777216/\ag (.d (.str (Txt.join z zs))) Z1
theorem reps_strs{K:PySem.W.Frag}{H:Hp}:∀{zs:List Str}{vs:List V},Reps K H vs (zs.map D.str)->vs=zs.map V.str
 |[],_,.nil=>rfl
 | z::zs,_,.cons r t=>by cases r;rw[reps_strs t];rfl
theorem pl_join{z:Str}{j:Nat}{pz:Pos}(he:PL X e te)(hs1:starEach [e] X.env=[(false,eval e X.env)]:=by rfl) (hbase:attributeBase (.Constant (.str z) j pz) "join" X.env (eval (.Constant (.str z) j pz) X.env)=eval (.Constant (.str z) j pz) X.env:=by rfl)
  (hfew:((backTo cpos (starEach [e] X.env)).all (λx=>!x.1) && (backToKw cpos (keywordEach [] X.env)).all (λx=>x.1.isSome)
   && decide (([e]).length+([]:List Keyword).length+(if([]:List Keyword).isEmpty then 0 else 1)<30))=true:=by rfl)
  (hline:(apos.endLine == cpos.line)=true:=by rfl) (hplain:(backTo cpos (starEach ([]:List Expr) X.env)).any (·.1)=false:=by rfl) :
  PL X (.Call (.Attribute (.Constant (.str z) j pz) "join" apos) [e] [] cpos) (wJoin z te):=by
 refine PL.of (pe_bm PySem.F.plainAttrs_str PySem.F.slot_str_join PySem.F.type_str_join mt_join pe_str (pa_cons (pl_frz he).pe pa_nil hs1) (hbase:=hbase) (hfew:=hfew) (hline:=hline) (hs:=hs1) (hplain:=hplain)) λσ H Pr Z ag E h=>?_
 refine⟨rfl,Pr,Z,λr Z1=>match r with
  |.d d=>itemsOf d λxs=>∃zs,xs=zs.map D.str/\(zs.map (·.length)).sum+zs.length*z.length<=16777216/\ag (.d (.str (Txt.join z zs))) Z1
  |_=>False,E,h,λv H' r Z' E' pp=>?_⟩
 cases r with
 | d d =>
  obtain⟨_,e1,p1⟩:=E'.head_d;cases e1
  cases p1 with
  | lst hz rs =>
   obtain⟨zs,rfl,hl,pp⟩:=pp;exact⟨z,_,_,zs,rfl,rfl,.inl hz.l,reps_strs rs,hl,_,_,E'.tail.cons_d (.str _),pp⟩
  | tup hz rs =>
   obtain⟨zs,rfl,hl,pp⟩:=pp;exact⟨z,_,_,zs,rfl,rfl,.inr hz,reps_strs rs,hl,_,_,E'.tail.cons_d (.str _),pp⟩
  |_=>exact pp.elim
 |_=>exact pp.elim
end
end L2
namespace L2
open PySem PySem.Spec PyProof.Rows
mutual
noncomputable def noL:D->Bool
 |.lst _=>false
 |.dct _=>false
 |.exc _ _ _=>false
 |.fn _ _=>false
 |.dk _ _=>false
 |.gf _=>false
 |.tup xs=>noLs xs
 |_=>true
noncomputable def noLs:List D->Bool
 |[]=>true
 |x::xs=>noL x && noLs xs
end
mutual
noncomputable def noLr:L->Bool
 |.un=>true
 |.d x=>noL x
 |.own _ xs=>noLs xs
 |.bx _ ls=>noLrs ls
 |.dic _ kvs=>kvs.all λp=>noL p.2
noncomputable def noLrs:List L->Bool
 |[]=>true
 |l::ls=>noLr l && noLrs ls
end
theorem noLr_un:noLr .un=true:=by simp[noLr]
theorem noLr_d(x:D):noLr (.d x)=noL x:=by simp[noLr]
theorem noLr_own(a:Addr)(xs:List D):noLr (.own a xs)=noLs xs:=by simp[noLr]
theorem noLr_bx(a:Option Addr)(ls:List L):noLr (.bx a ls)=noLrs ls:=by simp[noLr]
theorem noLr_dic(a:Addr)(kvs:List (Key×D)):noLr (.dic a kvs)=kvs.all λp=>noL p.2:=by simp[noLr]
theorem noLrs_nil:noLrs []=true:=by simp[noLrs]
theorem noLrs_cons(l:L)(ls:List L):noLrs (l::ls)=(noLr l && noLrs ls):=by simp[noLrs]
section
variable{X:Cx}{ae:List (Addr×Obj)}{σ:St}{H:Hp}{s:Shared}
theorem Inv.thaw{a:Addr}{o:Obj}{xs:List V}(I:Inv X ae σ H s)(h:H a=some (.frz o (.lst xs)))(h0:∀o u,X.H₀ a≠some (.frz o u)):Inv X ae σ (upd H a (.lst xs)) s:=by
 have ne:∀b,H b=none->b≠a:=λb n e=>by subst e;rw[h]at n;cases n
 have nt:∀b xs,H b=some (.tup xs)->b≠a:=λb xs n e=>by subst e;rw[h]at n;cases n
 have no:∀b z,H b=some (.own z)->b≠a:=λb z n e=>by subst e;rw[h]at n;cases n
 have nf:∀b o,H b=some (.frz o (.own b))->b≠a:=λb o n e=>by subst e;rw[h]at n;cases n
 have nw:=(I.hok a _ h).2;refine⟨I.ok,I.os,I.bare,⟨I.base.keep,I.base.slot,λb ob e n hx=>?_,I.base.there,λb xs e=>?_,λb ob z e=>?_,λb ps e=>?_⟩,I.loc,I.cell,?_,λx c e=>?_,λp hp=>?_,λb z e=>?_,I.len⟩
 . have q:=I.base.free b ob e n hx;rw[upd_ne (ne b q)];exact q
 . have q:=I.base.tups b xs e;rw[upd_ne (nt b xs q)];exact q
 . have q:=I.base.frzs b ob z e;rw[upd_ne (λy=>by subst y;exact h0 _ _ e)];exact q
 . have q:=I.base.tbls b ps e;rw[upd_ne (λz=>by subst z;rw[h]at q;cases q)];exact q
 . rw[upd_ne (ne _ I.free)];exact I.free
 .
  rcases I.freeC x c e with z|⟨hf,o,z⟩
  . exact .inl (by rw[upd_ne (ne _ z)];exact z)
  . exact .inr ⟨hf,o,by rw[upd_ne (nf _ _ z)];exact z⟩
 . obtain⟨e,n,r⟩:=I.pin p hp;exact⟨e,by rw[upd_ne (ne _ n)];exact n,r⟩
 .
  by_cases hb:b=a
  . subst hb;rw[upd_same]at e;cases e;exact nw.stay (λc v _ q=>q) (λc q=>by rw[upd_ne (no c _ q)];exact q) (λc xs q=>by rw[upd_ne (nt c xs q)];exact q) λc ob _ _ q=>by rw[upd_ne (nf c ob q)];exact q
  . rw[upd_ne hb]at e;exact(I.hok b z e).stay (λc v _ q=>q) (λc q=>by rw[upd_ne (no c _ q)];exact q) (λc xs q=>by rw[upd_ne (nt c xs q)];exact q) λc ob _ _ q=>by rw[upd_ne (nf c ob q)];exact q
end
def Thawed(H' H2:Hp)(S:List Addr):Prop:=(∀b,b∉S->H2 b=H' b)/\(∀a∈S,∃o vs,H' a=some (.frz o (.lst vs))/\H2 a=some (.lst vs))
theorem thawAll{X:Cx}{ae:List (Addr×Obj)}{σ:St}{s:Shared}:∀(S:List Addr){H:Hp},S.Nodup->Inv X ae σ H s->(∀a∈S,∃o vs,H a=some (.frz o (.lst vs)))->(∀a∈S,∀o u,X.H₀ a≠some (.frz o u))->∃H2,Inv X ae σ H2 s/\Thawed H H2 S
 |[],H,_,I,_,_=>⟨H,I,λ_ _=>rfl,λ_ h=>by simp at h⟩
 | a::S,H,nd,I,h,h0=>by
  obtain⟨na,nd⟩:=aP.mp nd;obtain⟨o,vs,ea⟩:=h a ao;have I1:=I.thaw ea (h0 a ao)
  obtain⟨H2,I2,T1,T2⟩:=thawAll S nd I1 (λb hb=>by
   obtain⟨o,us,e⟩:=h b (ai _ hb)
   exact⟨o,us,by rw[upd_ne (λz:b=a=>na (by rw[<- z];exact hb))];exact e⟩) λb hb=>h0 b (ai _ hb)
  refine⟨H2,I2,λb hb=>?_,λb hb=>?_⟩
  . rw[T1 b (λz=>hb (ai _ z)),upd_ne (λz:b=a=>hb (by rw[z];exact ao))]
  .
   rcases aD.mp hb with rfl|hb
   . exact⟨o,vs,ea,by rw[T1 b na,upd_same]⟩
   . obtain⟨o',us,e1,e2⟩:=T2 b hb;rw[upd_ne (λz:b=a=>na (by rw[<- z];exact hb))]at e1;exact⟨o',us,e1,e2⟩
section
variable{K:PySem.W.Frag}{H' H2:Hp}{S:List Addr}
mutual
theorem Rep.thaw(T:Thawed H' H2 S):∀{v:V}{d:D},noL d=true->Rep K H' v d->Rep K H2 v d
 |_,_,_,.non=>.non
 |_,_,_,.bl b=>.bl b
 |_,_,_,.int i=>.int i
 |_,_,_,.str x=>.str x
 | _,_,h,.tup hs r=>by
  refine .tup ?_ (Reps.thaw T (by simpa[noL]using h) r)
  rcases hs with(e|⟨u,e⟩)|e
  .
   exact .inl (.inl (by rw[T.1 _ λz=>by obtain⟨o,vs,e1,_⟩:=T.2 _ z;rw[e1]at e;cases e];exact e))
  .
   exact .inl (.inr ⟨u,by rw[T.1 _ λz=>by obtain⟨o,vs,e1,_⟩:=T.2 _ z;rw[e1]at e;cases e];exact e⟩)
  .
   exact .inr e
 |_,_,h,.lst hs r=>by simp[noL]at h
 |_,_,h,.dct e=>by simp[noL]at h
 |_,_,h,.exc _ _ _ _ _ _ _ _=>by simp[noL]at h
 |_,_,h,.fn _ _ _ _ _ _ _ _ _=>by simp[noL]at h
 |_,_,h,.dk _ _=>by simp[noL]at h
 |_,_,h,.gf _ _ _=>by simp[noL]at h
theorem Reps.thaw(T:Thawed H' H2 S):∀{vs:List V}{ds:List D},noLs ds=true->Reps K H' vs ds->Reps K H2 vs ds
 |_,_,_,.nil=>.nil
 | _,_,h,.cons r t=>by
  simp only[noLs,aL]at h
  exact .cons (Rep.thaw T h.1 r) (Reps.thaw T h.2 t)
end
theorem Thawed.lst(T:Thawed H' H2 S){a:Addr}{vs:List V}(h:H' a=some (.lst vs)):a∉S/\H2 a=some (.lst vs):=by
 have n:a∉S:=λz=>by obtain⟨o,us,e,_⟩:=T.2 a z;rw[h]at e;cases e
 exact⟨n,(T.1 a n).trans h⟩
theorem Thawed.tup(T:Thawed H' H2 S){a:Addr}{vs:List V}(h:SqT K H' a vs):SqT K H2 a vs:=by
 rcases h with(e|⟨u,e⟩)|e
 . exact .inl (.inl (by rw[T.1 _ λz=>by obtain⟨o,vs,e1,_⟩:=T.2 _ z;rw[e1]at e;cases e];exact e))
 . exact .inl (.inr ⟨u,by rw[T.1 _ λz=>by obtain⟨o,vs,e1,_⟩:=T.2 _ z;rw[e1]at e;cases e];exact e⟩)
 . exact .inr e
mutual
theorem Slot1.thaw(T:Thawed H' H2 S):∀{s:Option V}(l:L),noLr l=true->Slot1 K H' s l->Slot1 K H2 s l
 |_,.un,_,_=>by unfold Slot1;exact True.intro
 | _,.d x,h,q=>by
  unfold Slot1 at q ⊢
  obtain⟨v,e,r⟩:=q
  exact⟨v,e,r.thaw T (by simpa[noLr]using h)⟩
 | _,.own a xs,h,q=>by
  unfold Slot1 at q ⊢
  obtain⟨e,vs,ha,r⟩:=q
  exact⟨e,vs,(T.lst ha).2,r.thaw T (by simpa[noLr]using h)⟩
 | _,.bx none ls,h,q=>by
  unfold Slot1 at q ⊢
  obtain⟨a,vs,e,ha,r⟩:=q
  exact⟨a,vs,e,T.tup ha,Slots.thaw T ls (by simpa[noLr]using h) r⟩
 | _,.bx (some a) ls,h,q=>by
  unfold Slot1 at q ⊢
  obtain⟨e,vs,ha,r⟩:=q
  exact⟨e,vs,(T.lst ha).2,Slots.thaw T ls (by simpa[noLr]using h) r⟩
 | _,.dic a kvs,h,q=>by
  unfold Slot1 at q ⊢
  obtain⟨e,vs,ha,r⟩:=q
  have h':∀p∈kvs,noL p.2=true:=by simpa[noLr]using h
  refine⟨e,vs,?_,Paired.impMem r λp hp q z=>⟨z.1,z.2.thaw T (h' p hp)⟩⟩
  rw[T.1 a λz=>by obtain⟨o,us,e1,_⟩:=T.2 _ z;rw[e1]at ha;cases ha]
  exact ha
theorem Slots.thaw(T:Thawed H' H2 S):∀{vs:List V}(ls:List L),noLrs ls=true->Slots K H' vs ls->Slots K H2 vs ls
 |_,[],_,q=>by unfold Slots at q ⊢;exact q
 | _,l::ls,h,q=>by
  unfold Slots at q ⊢
  simp only[noLrs,aL]at h
  obtain⟨v,us,e,h1,h2⟩:=q
  exact⟨v,us,e,Slot1.thaw T l h.1 h1,Slots.thaw T ls h.2 h2⟩
end
end
noncomputable def flatL:L->Bool
 |.d _=>true
 |l=>noLr l
theorem flatL_un:flatL .un=true:=by simp[flatL,noLr]
theorem flatL_d(x:D):flatL (.d x)=true:=rfl
theorem flatL_own(a:Addr)(xs:List D):flatL (.own a xs)=noLs xs:=by simp[flatL,noLr]
theorem flatL_dic(a:Addr)(kvs:List (Key×D)):flatL (.dic a kvs)=kvs.all λp=>noL p.2:=by simp[flatL,noLr]
theorem flatL_bx(a:Option Addr)(ls:List L):flatL (.bx a ls)=noLrs ls:=by simp[flatL,noLr]
noncomputable def flatOwn(i:Nat)(Z:Ev):Bool:=(Z.set i .un).all flatL
theorem slots_thaw{K:PySem.W.Frag}{H0 H' H2:Hp}{S:List Addr}(T:Thawed H' H2 S)(p:Pres H0 H2):∀{σ:St}{Z Z0:Ev},Z.length=Z0.length ->
  (∀(j:Nat)(l:L),Z[j]?=some l->noLr l=true∨∃x,l=.d x/\Z0[j]?=some (.d x))->Paired (Slot1 K H0) σ Z0->Paired (Slot1 K H') σ Z->Paired (Slot1 K H2) σ Z
 |[],[],_,_,_,_,_=>.nil
 | s::σ,l::Z,l0::Z0,hl,h,.cons q0 t0,.cons q t=>by
  refine .cons ?_ (slots_thaw T p (by simpa using hl) (λj l e=>h (j+1) l e) t0 t);rcases h 0 l rfl with hh|⟨x,rfl,e⟩
  . exact q.thaw T l hh
  .
   have e:l0=.d x:=by simpa using e
   subst e;exact q0.pres p (.d x) λa ha=>by simp[ownsL]at ha
 |[],_::_,_,_,_,_,t=>nomatch t
 |_::_,[],_,_,_,_,t=>nomatch t
mutual
theorem Slot1.lsts{K:PySem.W.Frag}{H:Hp}:∀{s:Option V}(l:L){x:D},Slot1 K H s l->eraseL l=some x->∀a∈ownsL l,∃vs,H a=some (.lst vs)
 |_,.un,_,_,_,a,ha=>by simp[ownsL]at ha
 |_,.d x,_,_,_,a,ha=>by simp[ownsL]at ha
 |_,.dic _ _,_,_,h,_,_=>by simp[eraseL]at h
 | _,.own b xs,_,h,_,a,ha=>by
  simp only[Slot1]at h
  have e:a=b:=by simpa[ownsL]using ha
  subst e
  obtain⟨_,vs,q,_⟩:=h
  exact⟨_,q⟩
 | _,.bx none ls,_,h,hx,a,ha=>by
  simp only[Slot1]at h
  simp only[eraseL,Option.map_eq_some_iff]at hx
  obtain⟨xs,hx,_⟩:=hx
  obtain⟨b,vs,e,_,r⟩:=h
  exact Slots.lsts ls r hx a (by simpa[ownsL]using ha)
 | _,.bx (some b) ls,_,h,hx,a,ha=>by
  simp only[Slot1]at h
  simp only[eraseL,Option.map_eq_some_iff]at hx
  obtain⟨xs,hx,_⟩:=hx
  obtain⟨e,vs,q,r⟩:=h
  rcases(by simpa[ownsL]using ha:a=b∨a∈ownsLs ls)with z|z
  .
   subst z;exact⟨_,q⟩
  .
   exact Slots.lsts ls r hx a z
theorem Slots.lsts{K:PySem.W.Frag}{H:Hp}:∀{vs:List V}(ls:List L){xs:List D},Slots K H vs ls->eraseLs ls=some xs->∀a∈ownsLs ls,∃vs,H a=some (.lst vs)
 |_,[],_,_,_,a,ha=>by simp[ownsLs]at ha
 | _,l::ls,_,h,hx,a,ha=>by
  simp only[Slots]at h
  obtain⟨v,us,e,h1,h2⟩:=h
  simp only[eraseLs]at hx
  split at hx
  .
   rename_i x1 xs1 e1 e2
   rcases(by simpa[ownsLs]using ha:a∈ownsL l∨a∈ownsLs ls)with z|z
   .
    exact Slot1.lsts l h1 e1 a z
   .
    exact Slots.lsts ls h2 e2 a z
  .
   cases hx
end
theorem peek_core{X:Cx}{ae:List (Addr×Obj)}{σ0:St}{s s1:Shared}{Pr H H1 H':Hp}{σ τ:St}{Z lam:Ev}{i:Nat}{k:L}{x:D}{v:Option V}(I:Inv X ae σ0 H s)(E:REnv X.K Pr H σ Z)(hi:Z[i]?=some k)(hSa:∀a∈ownsL k,∃vs,H a=some (.lst vs))(F:Frozen H H1 (ownsL k))(hfl:flatOwn i Z=true)
  (I':Inv X ae σ0 H' s1) (E1:REnv X.K Pr H1 σ (Z.set i (.d x))) (E':REnv X.K (butOwn H1 (Z.set i (.d x))) H' (τ++σ) (lam++Z.set i (.d x))) (af:τ.length=lam.length) (hr:lam.all noLr=true):∃H2,Inv X ae σ0 H2 s1/\REnv X.K Pr H2 (τ++σ) (lam++Z):=by
 have hil:i<Z.length:=(ak.mp hi).1;have prm:=owns_takeL hi (l:=.d x) rfl;have hnd:(ownsL k++owns (Z.set i (.d x))).Nodup:=prm.nodup_iff.mp E.nd;obtain⟨nd1,nd2,nd3⟩:=aJ.mp hnd;have hna:∀a∈ownsL k,a∉owns (Z.set i (.d x)):=λa ha z=>nd3 a ha a z rfl;have hb:∀b u,H1 b=some u->b∉owns (Z.set i (.d x))->H' b=some u:=λb u e hno=>by refine E'.sub b u ?_;unfold butOwn;rw[if_neg hno];exact e
 have hS:∀a∈ownsL k,∃o vs,H' a=some (.frz o (.lst vs)):=λa ha=>by obtain⟨vs,e⟩:=hSa a ha;obtain⟨o,eo⟩:=F.2.2 a ha vs e;exact⟨o,vs,hb a _ eo (hna a ha)⟩
 obtain⟨H2,I2,T⟩:=thawAll (ownsL k) nd1 I' hS λa ha o u e=>by have z:=I.base.frzs a o u e;obtain⟨vs,q⟩:=hSa a ha;rw[q]at z;cases z
 have back:∀a∈ownsL k,H2 a=H a:=λa ha=>by obtain⟨vs,e⟩:=hSa a ha;obtain⟨o,eo⟩:=F.2.2 a ha vs e;obtain⟨o',vs',e1,e2⟩:=T.2 a ha;rw[hb a _ eo (hna a ha)]at e1;cases e1;rw[e2,e]
 have P:Pres H H2:=λb u hp e=>by
  have hno:b∉owns Z:=λz=>by obtain⟨ws,hz,mu⟩:=E.at_own z;rw[hz]at e;cases e;exact mu.no hp
  have hnk:b∉ownsL k:=λz=>hno (prm.mem_iff.mpr (av _ z));rw[T.1 b hnk];exact hb b u (F.1 b u hp e) λz=>hno (prm.mem_iff.mpr (az _ z))
 obtain⟨sl1,sl2⟩:=Paired.unapp af E'.sl;have ndE:=E'.nd;rw[owns_append]at ndE;obtain⟨ne1,ne2,ne3⟩:=aJ.mp ndE
 have lamS:∀a∈owns lam,a∉ownsL k/\Pr a=none/\a∉owns (Z.set i (.d x)):=λa ha=>by
  obtain⟨vs,e,mu⟩:=E'.at_own (a:=a) (by rw[owns_append];exact av _ ha);have h1:a∉ownsL k:=λz=>by obtain⟨o,us,e1,_⟩:=T.2 _ z;rw[e1]at e;cases e;exact mu
  have h3:a∉owns (Z.set i (.d x)):=λz=>ne3 a ha a z rfl;refine⟨h1,?_,h3⟩;have hoff:=E'.off a (by rw[owns_append];exact av _ ha);unfold butOwn at hoff;rw[if_neg h3]at hoff
  cases ep:Pr a with
  |none=>rfl
  |some w=>rw[E1.sub a w ep]at hoff;cases hoff
 have slt:Paired (Slot1 X.K H2) σ (Z.set i .un):=by
  have q:Paired (Slot1 X.K H') σ (Z.set i .un):=by have:=(Paired.set_r (b:=L.un) i sl2 λ_ _=>by unfold Slot1;exact True.intro);rwa [bM]at this
  refine slots_thaw T P (Z0:=Z) zY (λj l e=>?_) E.sl q;by_cases hj:j=i
  . subst hj;rw[a7 hil]at e;cases e;exact .inl noLr_un
  .
   have h1:=aY.mp hfl l (bG (i:=j) e);rw[bo (bN hj)]at e
   cases l with
   |un=>exact .inl noLr_un
   |d y=>exact .inr ⟨y,rfl,e⟩
   |own b ys=>exact .inl h1
   |bx b ls=>exact .inl h1
   |dic b ls=>exact .inl h1
 have slr:Paired (Slot1 X.K H2) τ lam:=Paired.impMem sl1 λl hl s q=>q.thaw T l (aY.mp hr l hl);refine⟨H2,I2,λb u e=>?_,?_,λb hbm=>?_,Paired.app slr ?_⟩
 .
  have hno:b∉owns Z:=λz=>by have:=E.off b z;rw[e]at this;cases this
  have hnk:b∉ownsL k:=λz=>hno (prm.mem_iff.mpr (av _ z));rw[T.1 b hnk];refine hb b u ?_ λz=>hno (prm.mem_iff.mpr (az _ z));rw[F.2.1 b hnk];exact E.sub b u e
 .
  rw[owns_append,aJ];refine⟨ne1,E.nd,λc hc d hd z=>?_⟩;subst z;obtain⟨h1,h2,h3⟩:=lamS c hc;rcases aH.mp (prm.mem_iff.mp hd)with z|z
  . exact h1 z
  . exact h3 z
 .
  rw[owns_append]at hbm;rcases aH.mp hbm with z|z
  . exact(lamS b z).2.1
  . exact E.off b z
 .
  obtain⟨sv,hs,q⟩:=E.slot hi;have:=Paired.set_r (b:=k) i slt λs es=>by rw[hs]at es;cases es;exact q.pres P k back
  rw[bM]at this
  have e2:Z.set i k=Z:=by
   refine List.ext_getElem? λj=>?_;by_cases hj:j=i
   . subst hj;rw[a7 hil,hi]
   . rw[bo (bN hj)]
  rwa [e2]at this
def pkW(o:Option L)(i:Nat)(t:W L)(Z:Ev)(ag:L->Ev->Prop):Prop:=match o with
 |some (.own _ xs)=>flatOwn i Z=true/\t (Z.set i (.d (.lst xs))) λr Z'=>noLr r=true/\Z'=Z.set i (.d (.lst xs))/\ag r Z
 |some (.bx b ls)=>flatOwn i Z=true/\toDB b ls λx=>t (Z.set i (.d x)) λr Z'=>noLr r=true/\Z'=Z.set i (.d x)/\ag r Z
 |_=>t Z ag
def wPeek(i:Nat)(t:W L):W L:=λZ ag=>pkW Z[i]? i t Z ag
theorem pkW_own(a:Addr)(xs:List D)(i:Nat)(t:W L)(Z:Ev)(ag:L->Ev->Prop):pkW (some (.own a xs)) i t Z ag=(flatOwn i Z=true/\t (Z.set i (.d (.lst xs))) λr Z'=>noLr r=true/\Z'=Z.set i (.d (.lst xs))/\ag r Z):=(rfl)
theorem pkW_bx(b:Option Addr)(ls:List L)(i:Nat)(t:W L)(Z:Ev)(ag:L->Ev->Prop):pkW (some (.bx b ls)) i t Z ag=(flatOwn i Z=true/\toDB b ls λx=>t (Z.set i (.d x)) λr Z'=>noLr r=true/\Z'=Z.set i (.d x)/\ag r Z):=(rfl)
theorem pkW_d(x:D)(i:Nat)(t:W L)(Z:Ev)(ag:L->Ev->Prop):pkW (some (.d x)) i t Z ag=t Z ag:=(rfl)
theorem peek_in{X:Cx}{ae:List (Addr×Obj)}{s:Shared}{σ:St}{H Pr:Hp}{Z:Ev}{i:Nat}{k:L}{x:D}(I:Inv X ae σ H s)(E:REnv X.K Pr H σ Z)(hi:Z[i]?=some k)(hx:eraseL k=some x):∃H1,Inv X ae σ H1 s/\REnv X.K Pr H1 σ (Z.set i (.d x))/\Frozen H H1 (ownsL k)/\∀a∈ownsL k,∃vs,H a=some (.lst vs):=by obtain⟨sv,hs,sl⟩:=E.slot hi;obtain⟨H1,I1,E1,F⟩:=frzL k I (E.outL hi hs) hx;have hil:i<Z.length:=(ak.mp hi).1;have E2:=E1.back (i:=i) (by rw[a7 hil]) hs;rw[bM]at E2;exact⟨H1,I1,E2,F,sl.lsts k hx⟩
theorem pl_peek{X:Cx}{e:Expr}(i:Nat){t:W L}(h:PL X e t):PL X e (wPeek i t):=by
 intro ae s σ H Pr Z ag I E hw;have go:∀(k:L)(x:D),Z[i]?=some k->eraseL k=some x->flatOwn i Z=true->(t (Z.set i (.d x)) λr Z'=>noLr r=true/\Z'=Z.set i (.d x)/\ag r Z)->wpAny (model X.prog X.w) X.A (eval e X.env) (EL X ae σ Pr ag) X.xe s:=by intro k x hi hx hfl hw;obtain⟨H1,I1,E1,F,Sa⟩:=peek_in I E hi hx;refine thn (h ae s σ _ _ _ _ I1 E1.wide hw) λu s1 ⟨v,H',r,Z',I',rv,E',hr,eρ,hp⟩=>?_;subst eρ;obtain⟨H2,I2,E2⟩:=peek_core (τ:=[some v]) (lam:=[r]) (v:=some v) I E hi Sa F hfl I' E1 E' rfl (by simpa using hr);exact⟨v,H2,r,Z,I2,rv,E2,hp⟩
 unfold wPeek pkW at hw;split at hw
 . rename_i a xs hi;exact go _ _ hi rfl hw.1 hw.2
 . rename_i b ls hi;obtain⟨x,hx,hw'⟩:=toDB_is hw.2;exact go _ _ hi hx hw.1 hw'
 . exact h ae s σ H Pr Z ag I E hw
def pkB(o:Option L)(i:Nat)(t:W Bool)(Z:Ev)(ag:Bool->Ev->Prop):Prop:=match o with
 |some (.own _ xs)=>flatOwn i Z=true/\t (Z.set i (.d (.lst xs))) λr Z'=>Z'=Z.set i (.d (.lst xs))/\ag r Z
 |some (.bx b ls)=>flatOwn i Z=true/\toDB b ls λx=>t (Z.set i (.d x)) λr Z'=>Z'=Z.set i (.d x)/\ag r Z
 |_=>t Z ag
def wPeekB(i:Nat)(t:W Bool):W Bool:=λZ ag=>pkB Z[i]? i t Z ag
theorem pkB_own(a:Addr)(xs:List D)(i:Nat)(t:W Bool)(Z:Ev)(ag:Bool->Ev->Prop):pkB (some (.own a xs)) i t Z ag=(flatOwn i Z=true/\t (Z.set i (.d (.lst xs))) λr Z'=>Z'=Z.set i (.d (.lst xs))/\ag r Z):=(rfl)
theorem pkB_bx(b:Option Addr)(ls:List L)(i:Nat)(t:W Bool)(Z:Ev)(ag:Bool->Ev->Prop):pkB (some (.bx b ls)) i t Z ag=(flatOwn i Z=true/\toDB b ls λx=>t (Z.set i (.d x)) λr Z'=>Z'=Z.set i (.d x)/\ag r Z):=(rfl)
theorem pkB_d(x:D)(i:Nat)(t:W Bool)(Z:Ev)(ag:Bool->Ev->Prop):pkB (some (.d x)) i t Z ag=t Z ag:=(rfl)
theorem pb_peek{X:Cx}{e:Expr}(i:Nat){t:W Bool}(h:PB X e t):PB X e (wPeekB i t):=by
 intro ae s σ H Pr Z ag I E hw;have go:∀(k:L)(x:D),Z[i]?=some k->eraseL k=some x->flatOwn i Z=true->(t (Z.set i (.d x)) λr Z'=>Z'=Z.set i (.d x)/\ag r Z)->wpAny (model X.prog X.w) X.A (isTrue e X.env (eval e X.env)) (EB X ae σ Pr ag) X.xe s:=by intro k x hi hx hfl hw;obtain⟨H1,I1,E1,F,Sa⟩:=peek_in I E hi hx;refine thn (h ae s σ _ _ _ _ I1 E1.wide hw) λu s1 ⟨H',Z',I',E',eρ,hp⟩=>?_;subst eρ;obtain⟨H2,I2,E2⟩:=peek_core (τ:=[]) (lam:=[]) (v:=none) I E hi Sa F hfl I' E1 E' rfl rfl;exact⟨H2,Z,I2,E2,hp⟩
 unfold wPeekB pkB at hw;split at hw
 . rename_i a xs hi;exact go _ _ hi rfl hw.1 hw.2
 . rename_i b ls hi;obtain⟨x,hx,hw'⟩:=toDB_is hw.2;exact go _ _ hi hx hw.1 hw'
 . exact h ae s σ H Pr Z ag I E hw
variable{X:Cx}
def opInS(neg:Bool):Op2:=λx y k=>shapeD x/\(toP x).depth<=62/\itemsOf y λys=>(∀z∈ys,shapeD z)/\k (.d (.bl (if neg then !anyEq x ys else anyEq x ys)))
open Classical in
noncomputable def eS(h:Heap)(dx:PyData)(u:Value):Bool:=decide (∃d as,Reads h u d as/\d.canLay0=true/\PyData.eqv d dx=true)
open Classical in
theorem eS_eq{h:Heap}{dx d:PyData}{u:Value}{as:List Addr}(r:Reads h u d as)(hc:d.canLay0=true):eS h dx u=PyData.eqv d dx:=by
 unfold eS;cases e:PyData.eqv d dx
 . refine bb ?_;rintro⟨d',as',r',hc',e'⟩;have:=SeqAt.Reads.unique _ _ _ _ _ hc r r';subst this;rw[e]at e';cases e'
 . exact bD ⟨d,as,r,hc,e⟩
theorem mem_eqS{A:Around}{s:Shared}{v:Value}{dx:D}{as:List Addr}(rx:Reads s.heap v (toP dx) as)(hx:shapeD dx)(hd:(toP dx).depth<=62)(hu:A.units+64<cLine):∀{ds:List D}{us:List Value}{bs:List Addr},ReadsAll s.heap us (toPs ds) bs->(∀z∈ds,shapeD z)->(∀u∈us,SeqAt.EqAt A.in1 s u v (eS s.heap (toP dx) u))/\us.any (eS s.heap (toP dx))=anyEq dx ds
 |[],_,_,r,_=>by cases r;exact⟨λu hm=>by simp at hm,rfl⟩
 | d::ds,_,_,r,hs=>by
  cases r with
  | cons r0 rs =>
   obtain⟨i1,i2⟩:=mem_eqS (A:=A) rx hx hd hu rs λz hz=>hs z (ai _ hz);have h0:=hs d ao;have e0:=eS_eq (dx:=toP dx) r0 (a6 h0);refine⟨λu hu'=>?_,?_⟩
   .
    rcases aD.mp hu' with rfl|hu'
    . rw[e0];refine SeqAt.eqAt_reads _ _ _ _ _ _ _ _ r0 rx (a6 h0) (a6 hx) ?_;have:min (toP d).depth (toP dx).depth<=(toP dx).depth:=Nat.min_le_right _ _;simp only[Around.in1_units];omega
    . exact i1 u hu'
   . rw[bO,e0,i2];rfl
theorem canLay_all:∀{ds:List D},(∀z∈ds,shapeD z)->PyData.canLayAll0 (toPs ds)=true
 |[],_=>rfl
 | d::ds,h=>by show((toP d).canLay0 && PyData.canLayAll0 (toPs ds))=true;rw[a6 (h d ao),canLay_all λz hz=>h z (ai _ hz)];rfl
theorem od_inS(hu:X.A.units+64<cLine):OpD X (compareOp .In) (opInS false):=by
 intro ae s σ H Pr Z x y v u dx dy ag I rx ry E px py ⟨h1,h2,h⟩;obtain⟨as,ra⟩:=reads_of I dx x v rx px (a6 h1)
 cases py with
 | lst hz rs =>
  obtain⟨hs,ho⟩:=h;cases ry;obtain⟨its,r,pl,hz'⟩:=I.list hz.l;obtain⟨bs,rb⟩:=readsAll_of I _ _ _ r rs (canLay_all hs);obtain⟨i1,i2⟩:=mem_eqS (A:=X.A) ra h1 h2 hu rb hs;refine SeqAt.in_listAt (eS s.heap (toP dx)) pl.isList (λw hw=>i1 w (by simpa using hw)) ⟨.bl _,H,_,I,rfl,E.cons_d (.bl _),?_⟩;rw[show its.toArray.any (eS s.heap (toP dx))=its.any (eS s.heap (toP dx)) by simp,i2];exact ho
 | tup hz rs =>
  obtain⟨hs,ho⟩:=h;cases ry;obtain⟨its,r,pl,hz'⟩:=I.tuple hz;obtain⟨bs,rb⟩:=readsAll_of I _ _ _ r rs (canLay_all hs);obtain⟨i1,i2⟩:=mem_eqS (A:=X.A) ra h1 h2 hu rb hs;refine SeqAt.in_tupleAt (eS s.heap (toP dx)) pl (λw hw=>i1 w (by simpa using hw)) ⟨.bl _,H,_,I,rfl,E.cons_d (.bl _),?_⟩;rw[show its.toArray.any (eS s.heap (toP dx))=its.any (eS s.heap (toP dx)) by simp,i2];exact ho
 |_=>exact h.elim
variable{X:Cx}
variable{X:Cx}
section
variable{X:Cx}{e a b c:Expr}{es:List Expr}{pos p p2:Pos}{ta:W L}{x y:Str}
def wLinks:List (Op2×W L)->D->W L
 |[],_=>λ_ _=>False
 |[(o,t)],dx=>λZ ag=>t Z λy Z1=>toD y λdy=>o dx dy λr=>isBl r λk=>ag (.d (.bl k)) Z1
 |(o,t)::q::r,dx=>λZ ag=>t Z λy Z1=>toD y λdy=>o dx dy λz=>isBl z λk=>if k=true then wLinks (q::r) dy Z1 ag else ag (.d (.bl false)) Z1
def wChainN(ta:W L)(ls:List (Op2×W L)):W L:=λZ ag=>ta Z λx Z1=>toD x λdx=>wLinks ls dx Z1 ag
inductive Links (X:Cx):List CmpOp->List Expr->List (Op2×W L)->Prop where
 |one {op:CmpOp} {e:Expr} {o:Op2} {t:W L} (ho:OpD X (compareOp op) o) (h:PL X e t):Links X [op] [e] [(o,t)]
 |cons {op:CmpOp} {e:Expr} {o:Op2} {t:W L} {ops:List CmpOp} {es:List Expr} {ls:List (Op2×W L)} (ho:OpD X (compareOp op) o) (h:PL X e t) (r:Links X ops es ls):Links X (op::ops) (e::es) ((o,t)::ls)
theorem op_link{op:CmpOp}{o:Op2}{ae:List (Addr×Obj)}{s:Shared}{σ:St}{H Pr:Hp}{Z:Ev}{v:V}{u:Value}{dx:D}{R:Bool->D->Ev->Prop}{t:W L}{Q:Value->Value->Shared->Prop}(ho:OpD X (compareOp op) o)(h:PL X e t)
  (I:Inv X ae σ H s) (rv:RelV v u) (E:REnv X.K Pr H (some v::σ) (.d dx::Z)) (ht:t Z λy Z1=>toD y λdy=>o dx dy λr=>isBl r λk=>R k dy Z1)
  (hQ:∀u2 s3 w2 dy H3 Z1 k,Inv X ae σ H3 s3->RelV w2 u2->REnv X.K Pr H3 (some w2::σ) (.d dy::Z1)->R k dy Z1->Q u2 (.bool k) s3) :
  wpAny (model X.prog X.w) X.A (eval e X.env) (λb s₁=>wpAny (model X.prog X.w) X.A (compareOp op u b) (λc s₂=>Q b c s₂) X.xe s₁) X.xe s:=by
 refine thn (h ae s σ H _ Z _ I E.tail.wide ht) λu2 s2 q=>?_;obtain⟨y,H2,dy,Z2,I2,r2,E2,q2⟩:=EL.frz (ag:=λdy Z1=>o dx dy λr=>isBl r λk=>R k dy Z1) q;have E3:REnv X.K Pr H2 (some y::some v::σ) (.d dy::.d dx::Z2):=REnv.step (τ:=[some v]) (lam:=[.d dx]) (w:=[some y]) (μ:=[.d dy]) E rfl E2 rfl;obtain⟨_,e1,p1⟩:=E3.head_d;obtain⟨_,e2,p2⟩:=E3.tail.head_d;cases e1;cases e2;have E4:REnv X.K Pr H2 σ Z2:=E3.tail.tail;have E5:REnv X.K Pr H2 (some y::σ) (.d dy::Z2):=E4.cons_d p1;have E5w:=E5;refine thn (ho ae s2 σ H2 (butOwn H2 Z2) Z2 v y u u2 dx dy _ I2 rv r2 E4.wide p2 p1 q2) λw s3 ⟨z,H3,r,I3,rz,E6,pp⟩=>?_;obtain⟨k,rfl,pp⟩:=isBl_is pp;obtain⟨_,e3,p3⟩:=E6.head_d;cases e3;cases p3;cases rz;have P3:Pres H2 H3:=pres_of E4 E6.sub;have E7:REnv X.K Pr H3 σ Z2:=E4.narrow E6.tail;exact hQ u2 s3 y dy H3 Z2 k I3 r2 (E7.cons_d (p1.pres P3)) pp
theorem links_pl{ops:List CmpOp}{es:List Expr}{ls:List (Op2×W L)}(h:Links X ops es ls):∀(ae:List (Addr×Obj))(s:Shared)(σ:St)(H Pr:Hp)(Z:Ev)(ag:L->Ev->Prop)(v:V)(u:Value)(dx:D)(pos:Pos),Inv X ae σ H s->RelV v u->REnv X.K Pr H (some v::σ) (.d dx::Z)->wLinks ls dx Z ag ->
  wpAny (model X.prog X.w) X.A (compareChain pos u ops (evalEach es X.env)) (EL X ae σ Pr ag) X.xe s:=by
 induction h with
 | one ho h =>
  intro ae s σ H Pr Z ag v u dx pos I rv E hl;refine chain_last ?_;exact op_link (R:=λk _ Z1=>ag (.d (.bl k)) Z1) (Q:=λ_ c s=>EL X ae σ Pr ag c s) ho h I rv E hl λu2 s3 w2 dy H3 Z1 k I3 r3 E3 q=>⟨.bl k,H3,_,Z1,I3,rfl,E3.tail.cons_d (.bl k),q⟩
 | @cons op e o t ops es ls ho h r ih =>
  intro ae s σ H Pr Z ag v u dx pos I rv E hl
  cases r with
  | one ho2 h2 =>
   refine chain_link (op_link (R:=λk dy Z1=>if k=true then wLinks [_] dy Z1 ag else ag (.d (.bl false)) Z1) (Q:=λb c s=>wpAny (model X.prog X.w) X.A (truthy c) (λt s₃=>if t then _ else EL X ae σ Pr ag c s₃) X.xe s) ho h I rv E hl λu2 s3 w2 dy H3 Z1 k I3 r3 E3 q=>?_)
   refine a0 ?_
   cases k with
   |false=>exact ite_ff ⟨.bl false,H3,_,Z1,I3,rfl,E3.tail.cons_d (.bl false),q⟩
   |true=>exact ite_tt (ih ae s3 σ H3 Pr Z1 ag w2 u2 dy pos I3 r3 E3 q)
  | cons ho2 h2 r2 =>
   cases r2 with
   | one ho3 h3 =>
    refine chain_link (op_link (R:=λk dy Z1=>if k=true then wLinks (_::_::_) dy Z1 ag else ag (.d (.bl false)) Z1) (Q:=λb c s=>wpAny (model X.prog X.w) X.A (truthy c) (λt s₃=>if t then _ else EL X ae σ Pr ag c s₃) X.xe s) ho h I rv E hl λu2 s3 w2 dy H3 Z1 k I3 r3 E3 q=>?_)
    refine a0 ?_
    cases k with
    |false=>exact ite_ff ⟨.bl false,H3,_,Z1,I3,rfl,E3.tail.cons_d (.bl false),q⟩
    |true=>exact ite_tt (ih ae s3 σ H3 Pr Z1 ag w2 u2 dy pos I3 r3 E3 q)
   | cons ho3 h3 r3 =>
    refine chain_link (op_link (R:=λk dy Z1=>if k=true then wLinks (_::_::_) dy Z1 ag else ag (.d (.bl false)) Z1) (Q:=λb c s=>wpAny (model X.prog X.w) X.A (truthy c) (λt s₃=>if t then _ else EL X ae σ Pr ag c s₃) X.xe s) ho h I rv E hl λu2 s3 w2 dy H3 Z1 k I3 r3 E3 q=>?_)
    refine a0 ?_
    cases k with
    |false=>exact ite_ff ⟨.bl false,H3,_,Z1,I3,rfl,E3.tail.cons_d (.bl false),q⟩
    |true=>exact ite_tt (ih ae s3 σ H3 Pr Z1 ag w2 u2 dy pos I3 r3 E3 q)
theorem pl_chainN{op op':CmpOp}{ops:List CmpOp}{r1 r2:Expr}{rs:List Expr}{ls:List (Op2×W L)}(ha:PL X a ta)(h:Links X (op::op'::ops) (r1::r2::rs) ls)(hm:lastMarks (op::op'::ops) (r1::r2::rs)=false:=by with_unfolding_all rfl):PL X (.Compare a (op::op'::ops) (r1::r2::rs) pos) (wChainN ta ls):=by intro ae s σ H Pr Z ag I E ht;refine Compare_chain (thn (ha ae s σ H Pr Z _ I E ht) λu s1 q=>?_) hm;obtain⟨v,H1,dx,Z1,I1,rv,E1,q1⟩:=EL.frz (ag:=λdx Z1=>wLinks ls dx Z1 ag) q;exact links_pl h ae s1 σ H1 Pr Z1 ag v u dx pos I1 rv E1 q1
noncomputable def strLe(x y:Str):Bool:=!decide (y.cps.toList<x.cps.toList)
theorem op_le_str:OpR X (compareOp .LtE) (λx y H Q=>∃i j,x=.str i/\y=.str j/\Q (.bl (strLe i j)) H):=by intro ae s σ H x y v u Q I rx ry ⟨i,j,ex,ey,q⟩;subst ex ey;obtain⟨t,rfl⟩:=rx;obtain⟨t',rfl⟩:=ry;refine PySem.P.le_str ⟨.bl _,H,I,rfl,?_⟩;have e:(strLe i j)=(!(decide (j.cps.toList<i.cps.toList))):=rfl;rw[e]at q;exact q
def opLe2:Op2:=λx y k=>match x,y with
 |.int i,.int j=>k (.d (.bl (decide (i<=j))))
 |.str i,.str j=>k (.d (.bl (strLe i j)))
 |_,_=>False
theorem od_le2:OpD X (compareOp .LtE) opLe2:=(OpD.or od_le (OpD.of (op:=λx y k=>∃i j,x=.str i/\y=.str j/\k (.d (.bl (strLe i j)))) op_le_str λσ H Pr Z x y dx dy ag E px py ⟨i,j,e1,e2,h⟩=>by
 subst e1 e2;cases px;cases py
 exact⟨i,j,rfl,rfl,_,E.cons_d (.bl _),h⟩)).imp λx y k h=>by
 cases x<;>cases y<;>first|exact h.elim|exact .inl h|exact .inr ⟨_,_,rfl,rfl,h⟩
theorem truth_bools{prog:Program}{w:World}{A:Around}{ks:List Bool}{us:List Value}(h:us=ks.map Value.bool):TruthOf prog w A (λi v=>us.toArray[i]?=some v) (λi=>ks.getD i true):=λi v s Q E hv hQ=>by
 subst h;rw[List.getElem?_toArray,bw]at hv
 cases q:ks[i]? with
 |none=>rw[q]at hv;cases hv
 | some k =>
  rw[q]at hv;cases hv;refine a0 ?_;have:ks.getD i true=k:=by rw[List.getD_eq_getElem?_getD,q];rfl
  have hQ':Q (ks.getD i true) s:=hQ;rw[this]at hQ';exact hQ'
theorem range_all(ks:List Bool):(List.range ks.length).all (λi=>ks.getD i true)=ks.all id:=by
 apply bU.mpr;simp only[aY,List.mem_range,id];constructor
 . intro h x hx;obtain⟨i,hi,e⟩:=List.getElem_of_mem hx;have:=h i hi;rw[List.getD_eq_getElem?_getD,aE hi]at this;simpa[e]using this
 . intro h i hi;rw[List.getD_eq_getElem?_getD,aE hi];exact h _ (List.getElem_mem hi)
theorem vals_bools:∀{ks:List Bool}{us:List Value},Vals (ks.map V.bl) us->us=ks.map Value.bool
 |[],_,.nil=>rfl
 | k::ks,_,.cons r t=>by have e:=vals_bools t;subst e;cases r;rfl
theorem call_all_seq(hc:X.calm=true):CallR X (.builtin "all") (λxs H Q=>∃(p:Addr)(ks:List Bool),xs=[.ref p]/\SqL X.K H p (ks.map V.bl)/\Q (.bl (ks.all id)) H):=by
 intro ae s σ H xs us Q I r ⟨p,ks,e,hq,q⟩;subst e;obtain⟨u,rfl,r1⟩:=vals1 r;cases r1;obtain⟨its,rv,pl,hz⟩:=I.list hq;have e:=vals_bools rv;refine call_all_walk (wpAny_pyIter_list pl.isList ?_);have hne:p≠s.heap.objs.size:=λz=>by obtain⟨o,n,eo,_⟩:=pl;have:=au eo;rw[z]at this;exact absurd this (bY _)
 refine⟨s.heap.objs.size,_,_,_,_,_,(λi=>ks.getD i true),rfl,Walks.list (A:=X.A.in1) (I.ok.hd hc) _ p hne its.toArray,⟨⟨_,aU _ rfl,rfl,rfl⟩,pl.isList.at λo eo=>aq _ eo⟩,truth_bools e,λh' tk hk=>?_⟩;have hl:its.toArray.size=ks.length:=by rw[e];simp
 rw[hl,range_all];refine⟨.bl _,H,I.kept (h':=h') (t':=tk) λb o eb=>hk b o (λhm=>?_) (aq _ eb),rfl,q⟩;have e2:b=s.heap.objs.size:=by simpa using hm
 have:=au eb;rw[e2]at this;exact absurd this (bY _)
theorem bools_of_reps{K:PySem.W.Frag}{H:Hp}:∀{vs:List V}{ks:List Bool},Reps K H vs (ks.map D.bl)->vs=ks.map V.bl
 |[],[],_=>rfl
 | _::_,k::ks,.cons r t=>by cases r;rw[bools_of_reps t];rfl
 |[],_::_,r=>nomatch r
 |_::_,[],r=>nomatch r
def opAll:OpN:=λds k=>∃ks:List Bool,ds=[.lst (ks.map D.bl)]/\k (.d (.bl (ks.all id)))
theorem cd_all(hc:X.calm=true):CallD X (.builtin "all") opAll:=CallD.of (call_all_seq hc) λσ H Pr Z vs ds ag E ps ⟨ks,e,h⟩=>by
 subst e;obtain⟨v,rfl,r⟩:=reps1 ps
 cases r with
 | lst hz rs =>
  have e:=bools_of_reps rs;subst e;exact⟨_,ks,rfl,hz.l,_,E.cons_d (.bl _),h⟩
end
end L2
set_option exponentiation.threshold 2000
namespace L2
open PySem PySem.Spec PyProof.Rows
section
variable{X:Cx}{e a b:Expr}{x y:Str}
mutual
noncomputable def shortD:D->Bool
 |.int i=>decide (i.natAbs<2^1900)
 |.tup xs=>shortDs xs
 |.lst xs=>shortDs xs
 |_=>true
noncomputable def shortDs:List D->Bool
 |[]=>true
 |x::xs=>shortD x && shortDs xs
end
theorem two1900:(2:Nat)^1900<10^600:=by decide +kernel
theorem int_short{i:Int}(h:i.natAbs<2^1900):(PyData.shown (.int i)).length<=601:=by have e:=PySem.int_text_length_le10 (k:=600) ze (Nat.lt_trans h two1900);show(Str.ofString (toString i)).length<=601;rw[PySem.ofString_length];exact e
mutual
theorem short_is:∀d:D,shortD d=true->(toP d).intsShort 601=true/\(toP d).showable=true
 |.non,_=>⟨rfl,rfl⟩
 |.bl _,_=>⟨rfl,rfl⟩
 |.str _,_=>⟨rfl,rfl⟩
 |.dct _,_=>⟨rfl,rfl⟩
 |.exc _ _ _,_=>⟨rfl,rfl⟩
 |.fn _ _,_=>⟨rfl,rfl⟩
 |.dk _ _,_=>⟨rfl,rfl⟩
 |.gf _,_=>⟨rfl,rfl⟩
 | .int i,h=>by
  have h':i.natAbs<2^1900:=by simpa only[shortD,bI]using h
  refine⟨by simp only[toP,PyData.intsShort,bI];exact int_short h',?_⟩
  simp only[toP,PyData.showable,bI]
  by_cases h0:i.natAbs=0
  .
   rw[h0];decide
  .
   exact(Nat.log2_lt h0).mpr (aj h' (aB ze ze))
 | .tup xs,h=>by
  obtain⟨h1,h2⟩:=short_iss xs (by simpa only[shortD]using h)
  exact⟨by simpa only[toP,PyData.intsShort]using h1,by simpa only[toP,PyData.showable]using h2⟩
 | .lst xs,h=>by
  obtain⟨h1,h2⟩:=short_iss xs (by simpa only[shortD]using h)
  exact⟨by simpa only[toP,PyData.intsShort]using h1,by simpa only[toP,PyData.showable]using h2⟩
theorem short_iss:∀ds:List D,shortDs ds=true->PyData.intsShortAll 601 (toPs ds)=true/\PyData.showableAll (toPs ds)=true
 |[],_=>⟨rfl,rfl⟩
 | d::ds,h=>by
  simp only[shortDs,aL]at h
  obtain⟨h1,h2⟩:=short_is d h.1
  obtain⟨h3,h4⟩:=short_iss ds h.2
  exact⟨by simp only[toPs,PyData.intsShortAll,h1,h3,Bool.and_self],by simp only[toPs,PyData.showableAll,h2,h4,Bool.and_self]⟩
end
structure ReprOk (d:D):Prop where
 ok:okD 40 d=true
 sh:shortD d=true
 wt:(toP d).weight<=20000
theorem ReprOk.len{d:D}(h:ReprOk d):(toP d).shown.length<=sizeLine:=by
 have h1:=PyData.shown_le 601 ze (toP d) (PyData.leavesShort_of_canLay0 601 _ (okD_lay 40 d h.ok).1 (short_is d h.sh).1);have h2:=h.wt;have e:sizeLine=16777216:=by decide
 rw[e];omega
def opEqS:Op2:=λx y k=>match x,y with
 |.str a,.str b=>k (.d (.bl (decide (a=b))))
 |_,_=>False
theorem od_eqS:OpD X (compareOp .Eq) opEqS:=OpD.of op_eq λσ H Pr Z x y dx dy ag E px py h=>by
 unfold opEqS at h;split at h
 .
  cases px;cases py;rename_i a b;refine⟨rfl,_,E.cons_d (.bl _),?_⟩;have e:decide (V.str a=V.str b)=decide (a=b):=by simp
  rw[e];exact h
 . exact h.elim
def fzW(f:Fl)(o:Option L)(j:Nat)(Z1:Ev)(ag:Fl->Ev->Prop):Prop:=match f with
 | .nx=>(match o with
  |some (.own _ xs)=>ag .nx (Z1.set j (.d (.lst xs)))
  |_=>ag .nx Z1)
 |f=>ag f Z1
theorem fzW_own(a:Addr)(xs:List D)(j:Nat)(Z1:Ev)(ag:Fl->Ev->Prop):fzW .nx (some (.own a xs)) j Z1 ag=ag .nx (Z1.set j (.d (.lst xs))):=(rfl)
theorem fzW_d(x:D)(j:Nat)(Z1:Ev)(ag:Fl->Ev->Prop):fzW .nx (some (.d x)) j Z1 ag=ag .nx Z1:=(rfl)
end
section
variable{X:Cx}{ae:List (Addr×Obj)}{σ:St}{H Pr:Hp}{s:Shared}{Z:Ev}
noncomputable def Itx(x:Str):It:=⟨λi _=>i<x.cps.size,λi H v H'=>(∃c,x.cps[i]?=some c/\v=.str ⟨#[c]⟩)/\H'=H,λi _=>x.cps.size<=i⟩
theorem turn_str{P:Program}{w:World}{K:PySem.W.Frag}{tg:Expr}(it:Addr)(x:Str)(t:Tok):Turn P w K tg (Itx x) [it] it (λi h=>h.IsStrIter it "str_ascii_iterator" x t i) where
 mem:=by simp
 obj:=λi h st b hb=>by
  have e:b=it:=by simpa using hb
  subst e;obtain⟨o,e,c,d⟩:=st;exact⟨o,e,λv z=>by rw[d]at z;cases z⟩
 keep:=λi h h' st k=>by obtain⟨o,e,c,d⟩:=st;exact⟨o,k it zY o e,c,d⟩
 item:=by intro X hP hw hK hc i ae s σ H E I hf st hg;subst hP hw hK;obtain⟨f0,f1,f2,f3,f4,f5⟩:=hf it zY;refine wpAny_pyNext_ascii_item st (Array.getElem?_eq_getElem hg) λh' st' sb=>?_;have I1:Inv X ae σ H {s with heap:=h',toks:=s.toks+1}:=I.turned (t':=s.toks+1) (λb o hb e=>(sb.2 b hb).trans e) f0 f1 f3 f4 f5;obtain⟨o,e,c,d⟩:=id st';exact⟨_,rfl,go_of (s:={s with heap:=h',toks:=s.toks+1}) e c d ze ⟨.str ⟨#[x.cps[i]]⟩,H,I1,⟨_,rfl⟩,⟨⟨_,Array.getElem?_eq_getElem hg,rfl⟩,rfl⟩,st',λb hb=>(hf b hb).1⟩⟩
 done:=by intro X hP hw hK hc i ae s σ H E I hf st hg;subst hP hw hK;obtain⟨f0,f1,f2,f3,f4,f5⟩:=hf it zY;exact wpAny_pyNext_ascii_end (I.ok.hd hc) st (Array.getElem?_eq_none hg) λh' eb=>⟨rfl,I.turned (t':=s.toks) (λb o hb e=>eb b o hb e) f0 f1 f3 f4 f5⟩
 self:=λ_ _ _ _ _ st h=>wpAny_pyIter_striter_ascii st h
noncomputable def signsD(x:Str):List D:=x.cps.toList.map λc=>.str ⟨#[c]⟩
theorem gives_str{K:PySem.W.Frag}{H:Hp}(x:Str):Gives K H (Itx x) (signsD x):=λH' p=>by
 refine⟨λi y e=>?_,?_⟩
 .
  unfold signsD at e;rw[bw]at e
  cases hc:x.cps.toList[i]? with
  |none=>rw[hc]at e;cases e
  | some c =>
   rw[hc]at e;have ey:D.str ⟨#[c]⟩=y:=aW e;subst ey;have hi:i<x.cps.size:=by simpa using(ak.mp hc).1
   refine⟨hi,λv H2 ⟨⟨c',e1,e2⟩,e3⟩=>?_⟩;have:x.cps[i]?=some c:=by simpa using hc
   rw[this]at e1;cases e1;subst e2 e3;exact⟨.inl rfl,.str _⟩
 . show x.cps.size<=(signsD x).length;simp[signsD]
def signsOf(d:D)(k:List D->Prop):Prop:=match d with
 |.str x=>x.cps.all (· < 128)=true/\k (signsD x)
 |_=>False
def wSrcS(t:W L):W (List D):=λZ ag=>t Z λr Z1=>toD r λx=>signsOf x λxs=>ag xs Z1
theorem pil_str{e tg:Expr}{t:W L}(h:PL X e t):PIL X tg e (wSrcS t):=by
 intro ae s σ H Pr Z ag I E ht;refine thn (h ae s σ H Pr Z _ I E ht) λu s1 q=>?_;obtain⟨v,H1,x,Z1,I1,r1,E1,q2⟩:=EL.frz (ag:=λx Z1=>signsOf x λxs=>ag xs Z1) q;obtain⟨_,e1,p⟩:=E1.head_d;cases e1
 cases p with
 | str y =>
  obtain⟨t,rfl⟩:=r1;obtain⟨ha,q3⟩:y.cps.all (· < 128)=true/\ag (signsD y) Z1:=q2;refine wpAny_pyIter_ascii ha ?_;refine⟨s1.heap.objs.size,[s1.heap.objs.size],_,_,H1,_,Z1,rfl,I1.kept (t':=s1.toks) λb o e=>aq _ e,turn_str _ y t,⟨_,aU _ rfl,rfl,rfl⟩,λb hb=>?_,E1.tail,gives_str y,q3⟩;have e:b=s1.heap.objs.size:=by simpa using hb
  subst e;exact I1.fpOk (ay _) (I1.hok.fresh (ay _))
 |_=>exact q2.elim
end
structure FX (K:PySem.W.Frag) (mg:Str->Option Value) (g:Str) (st:Stmt) (a:Addr) (fd:FuncData) (P:List Str):Prop where
 f:Fun K g g st a fd
 b:Binds K fd P []
 m:mg g=some (.ref a)
noncomputable abbrev fdM(g:Str)(st:Stmt)(md:Value)(c:Nat):FuncData:=PySem.W.fnOf g g (defArgs st) (defBody st) (defScope st) .none .none .none md none (.ref c) .none
theorem FX.mk'{K:PySem.W.Frag}{mg:Str->Option Value}{h:Heap}(X:K.In h)(G:h.Ns mainGlobals mg){g:Str}{st:Stmt}{a:Addr}{c:Nat}{md:Value}{P:List Str}(e1:PySem.W.nsIn K mainGlobals g=some (some (.ref a)))
  (e2:K.lookup a=some ⟨.type "function",none,.func (fdM g st md c),#[]⟩) (e3:PySem.W.codeIn K (.ref c) g=true) (e4:PySem.W.keepIn K (.ref a)=true)
  (e5:∀(kV doc pm:Value)(an:Option Addr)(cdv ct:Value)(us:List Value),us.length=P.length->bindArgs (PySem.W.fnOf g g (defArgs st) (defBody st) (defScope st) .none kV doc pm an cdv ct) ⟨us,[]⟩=pure (P.zip us)):FX K mg g st a (fdM g st md c) P :=
 ⟨fun_mk e2 e3 e4,(fun_mk e2 e3 e4).binds e5,b7 X G e1⟩
section
variable{X:Cx}{k k' n:Nat}{f:Addr}{fd:FuncData}{ps:List Str}{fs:FS}{g:Str}{st:Stmt}{e:Expr}{es:List Expr}{bs:List (Option Nat)}{t:W (List L)}{p pos:Pos}
theorem pl_cx(F:FnOk X.prog X.w X.K X.mg X.base CX0 k f fd ps (spF X.K n fs))(T:FX X.K X.mg g st f fd ps)(hr:Room k' X.A)(ha:PAL X (e::es) bs t)(hk:k<=k':=by decide)(hg:Gl X g:=by rfl)(hn:bs.length=n:=by rfl) (hdb:(g == ("__debug__" : Str))=false:=by decide) (he:starEach (e::es) X.env=(false,eval e X.env)::starEach es X.env:=by rfl) (hpl:(backTo pos (starEach es X.env)).any (·.1)=false:=by rfl) :
  PL X (.Call (.Name g p) (e::es) [] pos) (wCall fs t):=pl_call F (hr.mono hk) hg T.m T.f.kp T.b pass0 ha hn hdb he hpl
theorem pl_cxB(F:FnOk X.prog X.w X.K X.mg X.base CX0 k f fd ps (spF X.K n fs))(T:FX X.K X.mg g st f fd ps)(hr:Room k' X.A)(j i:Nat)(ha:PAL X (e::es) bs t)(hk:k<=k':=by decide)(hg:Gl X g:=by rfl)(hj:bs[j]?=some (some i):=by rfl)(hn:bs.length=n:=by rfl) (hdb:(g == ("__debug__" : Str))=false:=by decide) (he:starEach (e::es) X.env=(false,eval e X.env)::starEach es X.env:=by rfl) (hpl:(backTo pos (starEach es X.env)).any (·.1)=false:=by rfl) :
  PL X (.Call (.Name g p) (e::es) [] pos) (wCallB fs j i t):=pl_callB F (hr.mono hk) hg T.m T.f.kp T.b pass0 j i ha hj hn hdb he hpl
end
section
variable{X:Cx}
theorem opr_catT:OpR X (binaryOp .Add) (λx y H Q=>∃l b xs zs,x=.ref l/\y=.ref b/\SqT X.K H l xs/\SqT X.K H b zs/\xs≠[]/\zs≠[]/\xs.length+zs.length<=sizeLine/\∀p,H p=none->Q (.ref p) (upd H p (.tup (xs++zs)))):=by
 intro ae s σ H x y v u Q I rx ry h;obtain⟨l,b,xs,zs,rfl,rfl,hH,hB,n1,n2,hz,q⟩:=h;cases rx;cases ry;obtain⟨its,r,⟨o,e,c,n,f⟩,z⟩:=I.tuple hH;obtain⟨its2,r2,⟨o2,e2,c2,m,f2⟩,z2⟩:=I.tuple hB;obtain⟨cl,dd,dt,sl⟩:=o;obtain⟨cl2,dd2,dt2,sl2⟩:=o2;simp only at c f c2 f2;subst c f c2 f2;have hl:=r.length;have hl2:=r2.length;have k1:its≠[]:=λe=>n1 (List.length_eq_zero_iff.mp (by rw[hl,e];rfl));have k2:its2≠[]:=λe=>n2 (List.length_eq_zero_iff.mp (by rw[hl2,e];rfl));refine concat_meets ⟨_,e,rfl⟩ ⟨_,e2,rfl⟩ noFill_tuple_add seq_tuple_add PySem.F.slot_tuple_add PySem.F.entry_tuple_add (PySem.F.args_tuple_add_2 _ _) (tuple_addW2 l b its.toArray its2.toArray n m dd dd2 sl sl2 (by simpa using k1) (by simpa using k2) (by rw[aw,aw];omega)) ⟨e,e2,?_⟩;have ea:its.toArray++its2.toArray=(its++its2).toArray:=by simp
 rw[ea];exact⟨.ref _,upd H s.heap.objs.size (.tup (xs++zs)),I.laid (o:=.tup (xs++zs)) (λ_ _ q=>aq _ q) (ay _) ⟨by rw[bA];omega,its++its2,r.append r2,⟨_,aU _ rfl,rfl,_,rfl⟩⟩,rfl,q _ I.fresh⟩
def opAddT:Op2:=λx y k=>match x,y with
 |.tup xs,.tup ys=>xs≠[]/\ys≠[]/\xs.length+ys.length<=sizeLine/\k (.d (.tup (xs++ys)))
 |_,_=>False
theorem od_addT:OpD X (binaryOp .Add) opAddT:=(OpD.of opr_catT (op:=λx y k=>∃xs ys,x=.tup xs/\y=.tup ys/\xs≠[]/\ys≠[]/\xs.length+ys.length<=sizeLine/\k (.d (.tup (xs++ys)))) (λσ H Pr Z x y dx dy ag E px py ⟨xs,ys,e1,e2,m1,m2,z,h⟩=>by
  subst e1 e2
  cases px with
  | tup h1 r1 =>
   cases py with
   | tup h2 r2 =>
    refine⟨_,_,_,_,rfl,rfl,h1,h2,λe=>m1 ?_,λe=>m2 ?_,by rw[r1.length,r2.length];exact z,λp hp=>⟨_,E.cons_tup hp (r1.append r2),h⟩⟩
    . exact List.length_eq_zero_iff.mp (by rw[<- r1.length,e];rfl)
    .
     exact List.length_eq_zero_iff.mp (by rw[<- r2.length,e];rfl))).imp λx y k h=>by
 unfold opAddT at h;split at h
 . exact⟨_,_,rfl,rfl,h⟩
 . exact h.elim
end
mutual
noncomputable def depD:D->Nat
 |.tup xs=>depDs xs+1
 |.lst xs=>depDs xs+1
 |_=>0
noncomputable def depDs:List D->Nat
 |[]=>0
 |x::xs=>max (depD x) (depDs xs)
end
theorem depDs_le{n:Nat}:∀{xs:List D},(∀x∈xs,depD x<=n)->depDs xs<=n
 |[],_=>bP _
 | y::ys,h=>by simp only[depDs];have:=h y ao;have:=depDs_le (xs:=ys) λx hx=>h x (ai _ hx);omega
end L2
namespace L2
open PySem PySem.Spec PyProof.Rows PySem.Builtin.Str
inductive Sk where
 |l|t
noncomputable abbrev Zi:=Sk×Addr×Addr
noncomputable def Zi.ofs(js:List Zi):List Addr:=js.map (·.2.1)
def ZKeep(z O:Addr)(js:List Zi)(h h':Heap):Prop:=∀c o,c∉z::O::Zi.ofs js->h.get? c=some o->h'.get? c=some o
noncomputable def Sk.nm:Sk->String
 |.l=>"list_iterator"
 |.t=>"tuple_iterator"
section
variable{z O:Addr}{js:List Zi}
theorem ZKeep.mono{h h':Heap}(k:ZKeep z O js h h'){c:Addr}{o:Obj}(hc:c∉z::O::Zi.ofs js)(e:h.get? c=some o):h'.get? c=some o:=k c o hc e
end
end L2
namespace L2
open PySem PySem.Spec PyProof.Rows
end L2
namespace L2
open PySem PySem.Spec PyProof.Rows PySem.W
noncomputable def xmkIn(K:Frag)(C fI:Addr):Bool:=(match K.lookup C with
 | some ⟨.type "type",_,.cls cd,sl⟩=>(match cd.mro,sl.toList with
  |.ref C'::bm,[_,_,_,_,some (.builtin n),_]=>C' == C && n == "ValueError.__new__" && !cd.hasDel && bm.contains (.type "ValueError") && !(bm.contains (.type "AttributeError")) && !(bm.contains (.type "NameError"))
  |_,_=>false)
 |_=>false) && findIn K (.ref C) "__init__" == some (some (.ref fI)) && typeIn K (.ref fI) == some (.type "function")
structure XMk (K:Frag) (C fI:Addr):Prop where
 ex:∃ nm q N bs bm hdct sn sub ab col dd k0 k1 k2 k3 k5,K.lookup C=some (excClassObj nm q C N bs bm hdct sn sub ab col dd k0 k1 k2 k3 k5 "ValueError.__new__")/\bm.contains (.type "ValueError")=true/\bm.contains (.type "AttributeError")=false/\bm.contains (.type "NameError")=false
 init:findIn K (.ref C) "__init__"=some (some (.ref fI))
 fn:typeIn K (.ref fI)=some (.type "function")
theorem xmk_of{K:Frag}{C fI:Addr}(h:xmkIn K C fI=true):XMk K C fI:=by
 unfold xmkIn at h;simp only[aL,b8]at h;obtain⟨⟨h,h1⟩,h2⟩:=h;refine⟨?_,h1,h2⟩;split at h
 .
  rename_i dd cd sl ho;split at h
  . rename_i C' bm k0 k1 k2 k3 n k5 hm hs;simp only[aL,b8,Bool.not_eq_true']at h;obtain⟨⟨⟨⟨⟨rfl,rfl⟩,hdel⟩,e1⟩,e2⟩,e3⟩:=h;obtain⟨nm,bs,mro,ns,qn,hd,sn,sub,ab,col,del⟩:=cd;dsimp only at hm hdel;subst hm hdel;obtain⟨l⟩:=sl;simp only at hs;subst hs;exact⟨nm,qn,ns,bs,bm,hd,sn,sub,ab,col,dd,k0,k1,k2,k3,k5,ho,e1,e2,e3⟩
  . cases h
 . cases h
section
variable{prog:Program}{w:World}{A:Around}{E:Value->Shared->Prop}{h:Heap}{g:Array GenState}{d:Drawn}{t:Nat}{os:OsState}
variable{nm q:Str}{C N:Addr}{bs bm:List Value}{hdct:Bool}{sn:List Str}{sub:List Value}{ab:Bool}{col:Option Bool}{dd:Option Addr}{k0 k1 k2 k3 k5:Option Value}
theorem xnew_check{M:Model}{rest:List Value}{Q:Unit->Shared->Prop} (hC:h.get? C=some (excClassObj nm q C N bs bm hdct sn sub ab col dd k0 k1 k2 k3 k5 "ValueError.__new__")) (hv:bm.contains (.type "ValueError")=true)
  (hq:Q () ⟨h,g,d,t,os⟩):wpAny M A (checkBuiltinCall "ValueError.__new__" ⟨.ref C::rest,[]⟩) Q E ⟨h,g,d,t,os⟩:=by
 have FB:=F.excBase_ValueError;have hb:(Value.ref C::bm).contains (.type "ValueError")=true:=by rw[bE,hv,Bool.or_true]
 have hst:=FB.noStar;simp only[checkBuiltinCall,FB.newKind,FB.newSplit,FB.newRow]
 repeat (first|refine aZ hC ?_|(refine wpAny_isSubtype_exc hC ?_;rw[hb])|refine wpAny_staticBase_exc hC ?_|refine wpAny_madeBy_exc hC ?_|simp only[bne_self_eq_false,Bool.false_eq_true,if_false] | wp_step)
 exact hq
theorem xnew_run{rest:List Value}{R:Result->Shared->Prop} (hC:h.get? C=some (excClassObj nm q C N bs bm hdct sn sub ab col dd k0 k1 k2 k3 k5 "ValueError.__new__")) (hv:bm.contains (.type "ValueError")=true) (ha:bm.contains (.type "AttributeError")=false) (hn:bm.contains (.type "NameError")=false)
  (hz:rest.length<=sizeLine) (hq:R (.ok (.ret (.ref (h.objs.size+1)))) ⟨(h.push {cls:=.type "tuple",data:=.seq rest.toArray}).push {cls:=.ref C,data:=.fields #[.ref h.objs.size,.none,.none,.none,.bool false,.none] },g,d,t,os⟩) :
  codeAny (model prog w) A (.builtin "ValueError.__new__" ⟨.ref C::rest,[]⟩) R ⟨h,g,d,t,os⟩:=by
 have FB:=F.excBase_ValueError;have hends:=FB.ends;have c1:(Value.ref C::bm).contains (.type "ValueError")=true:=by rw[bE,hv,Bool.or_true]
 have c2:(Value.ref C::bm).contains (.type "AttributeError")=false:=by rw[bE,ha]; rfl
 have c3:(Value.ref C::bm).contains (.type "NameError")=false:=by rw[bE,hn]; rfl
 refine codeAny_builtinAt FB.entry ?_;unfold Builtin.«BaseException.__new__»;refine PySem.wpAt_bind ?_;show PySem.wpAt _ _ _ (stack >>= _) _ _ _;refine PySem.wpAt_bind (PySem.wpAt_stack λp below=>PySem.wpAt_of_wpAny ?_)
 wp_walk
 refine PySem.wpAt_of_wpAny ?_;rw[FB.owner]
 repeat (first|with_reducible refine wpAny_madeHere_exc FB.canon hC ?_|with_reducible refine aZ hC ?_|(with_reducible refine wpAny_isSubtype_exc hC ?_;first|rw[c1] | rw[c2] | rw[c3])|wp_step)
 show R _ _;rw[Heap.size_push];exact hq
theorem xcall{K:Frag}{fI:Addr}{rest:List Value}{Q:Value->Shared->Prop}(X:K.In h)(M:XMk K C fI)(hz:rest.length<=sizeLine)
  (hq:∀ h' e,Heap.MadeExcOf h h' e (.ref C) rest->h.objs.size<=e->wpAny (model prog w) (A.under (.builtin "type.__call__" ⟨.ref C::rest,[]⟩)) (call (.ref fI) (.ref e::rest)) (λr s'=>r=.none/\Q (.ref e) s') E ⟨h',g,d,t,os⟩) :
  wpAny (model prog w) A (call (.ref C) rest) Q E ⟨h,g,d,t,os⟩:=by
 obtain⟨nm,q,N,bs,bm,hdct,sn,sub,ab,col,dd,k0,k1,k2,k3,k5,hK,b1,b2,b3⟩:=M.ex;have hC:=X _ _ hK;have FB:=F.excBase_ValueError;have f1:=tc_lookup;have f2:=tc_bind (.ref C);have hT:(⟨h,g,d,t,os⟩:Shared).TypeIs (.ref C) "type":=⟨_,hC,rfl⟩;refine wpAny_call (codeAny_of_tree ?_);show wpAny _ _ (callAny (.ref C) _) _ _ _
 repeat (any_goals (first|assumption|with_reducible refine aZ hC ?_|wp_step))
 refine⟨rfl,?_⟩;refine codeAny_call_builtin_at (Code.quiet_builtin _ zd) entry_typeCall (wpAny_check_type_call_sub hC ?_)
 repeat (first|with_reducible refine aZ hC ?_|with_reducible refine wpAny_madeBy_exc hC ?_|wp_step)
 refine codeAny_call_builtin_code (Code.quiet_builtin _ FB.quiet) (xnew_check hC b1 ?_);refine xnew_run hC b1 b2 b3 hz ?_;have kp:∀ b o,h.get? b=some o->((h.push {cls:=.type "tuple",data:=.seq rest.toArray}).push {cls:=.ref C,data:=.fields #[.ref h.objs.size,.none,.none,.none,.bool false,.none] }).get? b=some o:=λb o e=>aq _ (aq _ e);have hC1:=kp _ _ hC;have X1:K.In _:=X.keeps kp;have hg:((h.push {cls:=.type "tuple",data:=.seq rest.toArray}).push {cls:=.ref C,data:=.fields #[.ref h.objs.size,.none,.none,.none,.bool false,.none] }).get? (h.objs.size+1)=some {cls:=.ref C,data:=.fields #[.ref h.objs.size,.none,.none,.none,.bool false,.none] }:=by heap_get
 have cC:(Value.ref C::bm).contains (.ref C)=true:=by simp
 show wpAny _ _ _ _ _ ⟨(h.push {cls:=.type "tuple",data:=.seq rest.toArray}).push {cls:=.ref C,data:=.fields #[.ref h.objs.size,.none,.none,.none,.bool false,.none] },g,d,t,os⟩;unfold isInstance
 repeat (first|with_reducible refine aZ hg ?_|(with_reducible refine wpAny_isSubtype_exc hC1 ?_;rw[cC])|wp_step)
 have L1:=looks_findIn (M:=model prog w) X1 M.init;have L2:=bind_fn (M:=model prog w) X1 (.ref (h.objs.size+1)) M.fn;show wpAny _ _ (typeLookup (.ref C) _) _ _ _;refine L1.at (bF (ah (L2.at ?_)));refine ah (bu (hq _ (h.objs.size+1) ⟨kp,Heap.get?_none_of_le (Nat.le_succ _),h.objs.size,hg,Heap.get?_none_of_le (ay _),aq _ (Heap.get?_push_at rfl rfl)⟩ (Nat.le_succ _)) (λr s' hr=>?_) λ_ _ x=>x);obtain⟨rfl,hQ⟩:=hr
 wp_walk
 exact hQ
end
section
variable{prog:Program}{w:World}{A:Around}{E:Value->Shared->Prop}{s:Shared}{K:Frag}{c:Str}{C L:Addr}{cd:ClassData}{env:Env}
structure Fly (h:Heap) (e:Addr) (cls:Value) (dx T:Option Addr):Prop where
 ex:∃vs sl,h.get? e=some ⟨cls,dx,.fields vs,sl⟩/\1<vs.size/\(match T with
  |none=>vs[1]?=some .none
  |some t=>vs[1]?=some (.ref t)/\t≠e/\∃ot ts,h.get? t=some ot/\ot.data=.fields ts/\ts[3]?=some .none)
theorem xraise{x:Sem Value}{Q:Flow->Shared->Prop}(S:XStd K c C L cd)(hh:A.handled=none)
  (h:wpAny (model prog w) A x (λv s1=>∃e dx,v=.ref e/\K.In s1.heap/\Fly s1.heap e (.ref C) dx none/\E (.ref e) s1) E s):wpAny (model prog w) A (raiseStmt env (some x) none) Q E s:=by
 unfold raiseStmt;refine ah (bu h (λv s1 h1=>?_) λ_ _ z=>z);obtain⟨e,dx,rfl,X,⟨vs,sl,he,hz,h1⟩,hE⟩:=h1;obtain⟨hp,g,d,tk,os⟩:=s1;have h1:vs[1]?=some .none:=h1;have he:hp.get? e=some ⟨.ref C,dx,.fields vs,sl⟩:=he;obtain⟨oc,odc,slc,hK⟩:=clsIn_obj S.cls;have hC:hp.get? C=some ⟨oc,odc,.cls cd,slc⟩:=X _ _ hK;have hoc:oc=.type "type":=by have z:(K.lookup C).map (·.cls)=some (.type "type"):=S.ty;rw[hK]at z;exact aW z
 subst hoc;have Lb:=S.isT (M:=model prog w) X "BaseException";have eb:(["ValueError","Exception","BaseException","object"]:List String).contains "BaseException"=true:=by decide
 rw[eb]at Lb
 repeat (first|with_reducible refine aZ he ?_|with_reducible refine aZ hC ?_|with_reducible refine Lb.at ?_|with_reducible refine cf he rfl h1 ?_|wp_step)
 exact wpAny_raiseNew_none hh hE
theorem xnote{base:Heap}{outer:List Env}{F e:Addr}{cls:Value}{dx T:Option Addr}{Q:Unit->Shared->Prop}
  (hfr:A.frames=some (env::outer)) (hl:s.heap.FunFrames base (env::outer)) (hf:env.frame=some F) (fl:Fly s.heap e cls dx T)
  (hq:∀h' T',Fly h' e cls dx (some T')->s.heap.objs.size<=T'->(∀b o,b≠e->some b≠T->b∉frs (env::outer)->s.heap.get? b=some o->h'.get? b=some o) ->
   (∀b o,b≠e->some b≠T->s.heap.get? b=some o->∃sl,h'.get? b=some {o with slots:=sl})->Q () {s with heap:=h' }) :
  wpAny (model prog w) A (noteFrame (.ref e) env) (λ_ s2=>wpAny (model prog w) A (setFlight (.ref e) none) Q E s2) E s:=by
 obtain⟨vs,sl,he,hz,hT⟩:=fl;have nof:∀b o vs',s.heap.get? b=some o->o.data=.fields vs'->b∉frs (env::outer):=λb o vs' hb hd hm=>by obtain⟨_,o',ho',hn'⟩:=hl.mem hm;rw[hb]at ho';cases ho';exact hn' _ hd
 have entry:∀(s1:Shared)(vs1:Array Value)(head:Value)(hn:Bool),s1.heap.get? e=some ⟨cls,dx,.fields vs1,sl⟩->1<vs1.size->s1.heap.FunFrames base (env::outer) ->
   (∀b o,b≠e->some b≠T->s.heap.get? b=some o->s1.heap.get? b=some o)->s1.heap.objs.size=s.heap.objs.size->s1={s with heap:=s1.heap} ->
   wpAny (model prog w) A (do let a <- frameOf env;let pl <- entryPlaceOf F hn;let b <- EntryCells.newEntry head a .none (rawInt F) .none pl;setField (.ref e) 1 b) (λ_ s2=>wpAny (model prog w) A (setFlight (.ref e) none) Q E s2) E s1:=by
  intro s1 vs1 head hn he1 hz1 hl1 kp sz es;have nof1:∀b o vs',s1.heap.get? b=some o->o.data=.fields vs'->b∉frs (env::outer):=λb o vs' hb hd hm=>by obtain⟨_,o',ho',hn'⟩:=hl1.mem hm;rw[hb]at ho';cases ho';exact hn' _ hd
  refine ah (wpAny_frameOf_fun hfr hl1 hf λh1 hs1=>?_);refine ah (wpAny_entryPlaceOf λpl hpl=>?_);unfold EntryCells.newEntry newFields;refine ah (bJ ?_ (hpl.sizeOk5 _ _ _ _ _))
  generalize hob:({cls:=.type "traceback",dict:=none,data:=.fields ([head,Value.ref F,.none,rawInt F,.none]++(if pl.isEmpty then List.replicate 6 Value.none else pl)).toArray}:Obj)=ob
  have hod:∃ts,ob.data=.fields ts/\3<ts.size:=by subst hob;exact⟨_,rfl,by simp only[aw,bA,aX,List.length_nil];omega⟩
  obtain⟨ts,hod,hts⟩:=hod;have he2:h1.get? e=some ⟨cls,dx,.fields vs1,sl⟩:=(hs1.2.1 e (nof1 _ _ _ he1 rfl)).trans he1;have he3:=aq (h:=h1) ob he2;have ne:h1.objs.size≠e:=Nat.ne_of_gt (au he2);refine wpAny_setField he3 rfl hz1 ?_;have he4:=bz (Obj.mapFields (·.setIfInBounds 1 (Value.ref h1.objs.size))) he3 rfl;have hT4:=(aN (h1.push ob) (Obj.mapFields (·.setIfInBounds 1 (Value.ref h1.objs.size))) (bN ne)).trans (aU h1 (by obtain⟨_,_,dt,_⟩:=ob;cases hod;rfl));unfold setFlight;refine ah (cf he4 rfl (x:=.ref h1.objs.size) (by simp[hz1]) ?_);rw[if_pos (show(Value.ref h1.objs.size != Value.none)=true from by simp)];refine wpAny_setField hT4 hod hts ?_;rw[es];have keep:∀b o,b≠e->h1.get? b=some o->(((h1.push ob).update e (Obj.mapFields (·.setIfInBounds 1 (Value.ref h1.objs.size)))).update h1.objs.size (Obj.mapFields (·.setIfInBounds 3 ((none:Option Addr).elim Value.none λf=>rawInt f)))).get? b=some o:=λb o hb e1=>by rw[aN _ _ (Nat.ne_of_gt (au e1)),aN _ _ (bN hb)];exact aq _ e1
  refine hq _ h1.objs.size ⟨vs1.setIfInBounds 1 (.ref h1.objs.size),sl,?_,by simpa using hz1,by simp[hz1],ne,_,_,bz _ hT4 (Obj.isFreed_of_fields (Obj.data_mapFields hod _)),Obj.data_mapFields hod _,by simp[hts]⟩ ?_ (λb o hb hbT hbf e1=>?_) λb o hb hbT e1=>?_
  . rw[aN _ _ ne];exact he4
  . rw[hs1.1,sz];exact ay _
  . exact keep b o hb ((hs1.2.1 b hbf).trans (kp b o hb hbT e1))
  . obtain⟨sl',e2⟩:=hs1.2.2 b o (kp b o hb hbT e1);exact⟨sl',keep b _ hb e2⟩
 unfold noteFrame;simp only[hf]
 cases T with
 | none =>
  refine ah (cf he rfl hT ?_);rw[if_neg (by decide)];exact entry s vs .none _ he hz hl (λ_ _ _ _ e1=>e1) rfl rfl
 | some t =>
  obtain⟨h1,hte,ot,ts,ht,hdt,h3⟩:=hT;refine ah (cf he rfl h1 ?_);rw[if_pos (show(Value.ref t != Value.none)=true from by simp)];refine ah (cf ht hdt h3 ?_);rw[if_neg (show ¬((Value.none == rawInt F)=true)from by simp[rawInt])];refine ah (wpAny_setField ht hdt (Array.getElem?_eq_some_iff.mp h3).1 ?_);have oth:∀b,b≠t->(s.heap.update t (Obj.mapFields (·.setIfInBounds 3 Value.none))).get? b=s.heap.get? b:=λb hb=>aN _ _ (bN hb);refine entry _ vs (.ref t) _ ((oth e (bN hte)).trans he) hz (hl.of_keeps λb o hb hnf=>⟨o,(oth b λq=>?_).trans hb,rfl⟩) (λb o hb hbT e1=>(oth b λq=>hbT (by rw[q])).trans e1) zY rfl;rw[q,ht]at hb;cases hb;exact hnf ts hdt
theorem xland{e T:Addr}{cls:Value}{dx:Option Addr}{Q:Unit->Shared->Prop}(fl:Fly s.heap e cls dx (some T))
  (hq:∀h',Fly h' e cls dx (some T)->(∀b o,b≠T->s.heap.get? b=some o->h'.get? b=some o)->Q () {s with heap:=h' }):wpAny (model prog w) A (setFlight (.ref e) none) Q E s:=by
 obtain⟨vs,sl,he,hz,h1,hte,ot,ts,ht,hdt,h3⟩:=fl;have hts:=(Array.getElem?_eq_some_iff.mp h3).1;unfold setFlight;refine ah (cf he rfl h1 ?_);rw[if_pos (show(Value.ref T != Value.none)=true from by simp)];refine wpAny_setField ht hdt hts (hq _ ⟨vs,sl,?_,hz,h1,hte,_,_,bz _ ht (Obj.isFreed_of_fields (Obj.data_mapFields hdt _)),Obj.data_mapFields hdt _,by simp[hts]⟩ λb o hb e1=>?_)
 . rw[aN _ _ hte];exact he
 . rw[aN _ _ (bN hb)];exact e1
end
noncomputable def del(H:Hp)(e:Addr):Hp:=λb=>if b=e then none else H b
theorem del_ne{H:Hp}{e b:Addr}(h:b≠e):del H e b=H b:=by unfold del;rw[if_neg h]
theorem del_self{H:Hp}{e:Addr}:del H e e=none:=by unfold del;rw[if_pos rfl]
theorem del_none{H:Hp}{e b:Addr}(h:H b=none):del H e b=none:=by unfold del;split;rfl;exact h
section
variable{X:Cx}{ae:List (Addr×Obj)}{σ:St}{H:Hp}{s:Shared}
theorem Inv.forget{e:Addr}{φ:Heap->Prop}(I:Inv X ae σ H s)(h:H e=some (.ext φ)):Inv X ae σ (del H e) s:=by
 have ne:∀b o,H b=some o->(∀ψ,o≠.ext ψ)->b≠e:=λb o q n z=>by subst z;rw[h]at q;cases q;exact n _ rfl
 refine⟨I.ok,I.os,I.bare,⟨I.base.keep,I.base.slot,λb o e1 n hx=>del_none (I.base.free b o e1 n hx),I.base.there,λb xs q=>?_,λb o u q=>?_,λb ps q=>?_⟩,I.loc,I.cell,del_none I.free,λx c q=>(I.freeC x c q).imp del_none fun⟨hf,o,z⟩=>⟨hf,o,by rw[del_ne (ne c _ z λ_ q=>nomatch q)];exact z⟩,λp hp=>?_,λb u q=>?_,I.len⟩
 . have z:=I.base.tups b xs q;rw[del_ne (ne b _ z λ_ q=>nomatch q)];exact z
 . have z:=I.base.frzs b o u q;rw[del_ne (ne b _ z λ_ q=>nomatch q)];exact z
 . have z:=I.base.tbls b ps q;rw[del_ne (ne b _ z λ_ q=>nomatch q)];exact z
 . obtain⟨a1,a2,a3⟩:=I.pin p hp;exact⟨a1,del_none a2,a3⟩
 .
  have hb:b≠e:=λz=>by subst z;rw[del_self]at q;cases q
  rw[del_ne hb]at q;exact(I.hok b u q).stay (λc v _ z=>z) (λc z=>by rw[del_ne (ne c _ z λ_ q=>nomatch q)];exact z) (λc xs z=>by rw[del_ne (ne c _ z λ_ q=>nomatch q)];exact z) λc ob _ _ z=>by rw[del_ne (ne c _ z λ_ q=>nomatch q)];exact z
theorem Inv.track{e:Addr}{o:HO}(I:Inv X ae σ H s)(hn:H e=none)(h0:X.s₀.heap.objs.size<=e)(hL:e≠X.env.locals)(hc:∀x c,X.env.cells.lookup x=some c->c≠e)(hp:∀p∈X.pn++ae,p.1≠e)
  (new:ObjOk X.prog X.w (upd H e o) s.heap e o):Inv X ae σ (upd H e o) s:=by
 have ne:∀b u,H b=some u->b≠e:=λb u q z=>by subst z;rw[hn]at q;cases q
 refine⟨I.ok,I.os,I.bare,⟨I.base.keep,I.base.slot,λb u e1 n hx=>?_,I.base.there,λb xs q=>?_,λb u z q=>?_,λb ps q=>?_⟩,I.loc,I.cell,?_,λx c q=>?_,λp hq=>?_,λb u q=>?_,I.len⟩
 . rw[upd_ne (λz=>by subst z;exact absurd (au e1) (Nat.not_lt.mpr h0))];exact I.base.free b u e1 n hx
 . have z:=I.base.tups b xs q;rw[upd_ne (ne b _ z)];exact z
 . have z:=I.base.frzs b _ _ q;rw[upd_ne (ne b _ z)];exact z
 . have z:=I.base.tbls b ps q;rw[upd_ne (ne b _ z)];exact z
 . rw[upd_ne (bN hL)];exact I.free
 . rw[upd_ne (hc x c q)];exact I.freeC x c q
 . obtain⟨a1,a2,a3⟩:=I.pin p hq;exact⟨a1,by rw[upd_ne (hp p hq)];exact a2,a3⟩
 .
  by_cases hb:b=e
  . subst hb;rw[upd_same]at q;cases q;exact new
  . rw[upd_ne hb]at q;exact(I.hok b u q).stay (λc v _ z=>z) (λc z=>by rw[upd_ne (ne c _ z)];exact z) (λc xs z=>by rw[upd_ne (ne c _ z)];exact z) λc ob _ _ z=>by rw[upd_ne (ne c _ z)];exact z
end
def vis(o:HO):Prop:=Pers o/\noIns o
open Classical in
noncomputable def hidH(H:Hp):Hp:=λb=>match H b with
 |some o=>if vis o then some o else none
 |none=>none
theorem hidH_none{H:Hp}{b:Addr}(h:H b=none):hidH H b=none:=by unfold hidH;rw[h]
theorem hidH_vis{H:Hp}{b:Addr}{o:HO}(h:H b=some o)(v:vis o):hidH H b=some o:=by unfold hidH;rw[h];exact if_pos v
theorem hidH_is{H:Hp}{b:Addr}{o:HO}(h:hidH H b=some o):H b=some o/\vis o:=by
 unfold hidH at h;split at h
 .
  rename_i u e;split at h
  . rename_i v;cases h;exact⟨e,v⟩
  . cases h
 . cases h
theorem hidH_no{H:Hp}{b:Addr}{o:HO}(h:H b=some o)(v:¬vis o):hidH H b=none:=by unfold hidH;rw[h];exact if_neg v
theorem ObjOk.stayN{P:Program}{w:World}{H H':Hp}{h h':Heap}{a:Addr}:∀{o:HO},noIns o->ObjOk P w H h a o->(∀u,h.get? a=some u->h'.get? a=some u)->(∀b xs,H b=some (.tup xs)->H' b=some (.tup xs))->(∀b o q,CodeOb o q->H b=some (.frz o (.own b))->H' b=some (.frz o (.own b)))->ObjOk P w H' h' a o
 |.lst xs,_,x,k,_,_=>by obtain⟨z,its,n,r,e⟩:=x;exact⟨z,its,n,r,k _ e⟩
 |.tup xs,_,x,k,_,_=>by obtain⟨z,its,r,ob,e,c⟩:=x;exact⟨z,its,r,ob,k _ e,c⟩
 |.dK kvs,_,x,k,_,_=>by obtain⟨z,y,vs,r,ob,es,ep,e,c⟩:=x;exact⟨z,y,vs,r,ob,es,ep,k _ e,c⟩
 | .dT kvs,_,x,k,ht,_=>by obtain⟨z,y,xs,r,ob,es,ep,e,c⟩:=x;exact⟨z,y,xs,Paired.mapP r λp q z=>⟨z.1,ht _ _ z.2.1,z.2.2⟩,ob,es,ep,k _ e,c⟩
 |.set S n,_,x,k,_,_=>by obtain⟨ob,es,ep,t,e,c⟩:=x;exact⟨ob,es,ep,t,k _ e,c⟩
 |.ins C dx fs,n,_,_,_,_=>n.elim
 |.own y,_,x,k,_,_=>by obtain⟨ob,e⟩:=x;exact⟨ob,k _ e⟩
 |.xd fs,_,x,k,_,_=>by obtain⟨mA,⟨od,es,ep,e,c⟩,r⟩:=x;exact⟨mA,⟨od,es,ep,k _ e,c⟩,r⟩
 |.rng lo hi,_,x,k,_,_=>by obtain⟨t,u,v,e⟩:=x;exact⟨t,u,v,k _ e⟩
 |.frz ob u,n,x,k,ht,hf=>by obtain⟨e,q⟩:=x;exact⟨k _ e,ObjOk.stayN (o:=u) n q k ht hf⟩
 | .tbl t,_,x,k,_,hf=>by
  obtain⟨ps,e,tr,m⟩:=x
  exact⟨ps,k _ e,tr,λpos cv z=>let ⟨c',oc,a1,a2,a3⟩:=m pos cv z;⟨c',oc,a1,hf _ _ _ a3 a2,a3⟩⟩
 | .met f y,_,x,k,_,_=>by have e:h.get? a=some (PySem.W.methodObj (.ref f) (.ref y)):=x;exact(k _ e:h'.get? a=some (PySem.W.methodObj (.ref f) (.ref y)))
 |.ext φ,_,x,k,_,_=>by obtain⟨p,⟨o,e⟩,st⟩:=x;exact⟨st _ _ p k,⟨o,k _ e⟩,st⟩
theorem vis_tup(xs:List V):vis (.tup xs):=⟨True.intro,True.intro⟩
theorem vis_tbl(q:Str):vis (.tbl q):=⟨True.intro,True.intro⟩
theorem vis_frzo(o:Obj)(y:Addr):vis (.frz o (.own y)):=⟨True.intro,True.intro⟩
section
variable{X:Cx}{ae:List (Addr×Obj)}{σ:St}{H H':Hp}{s s':Shared}
theorem Inv.hide(I:Inv X ae σ H s):Env0 X.prog X.w X.K X.mg X.base X.A X.stack s (hidH H):=by have e0:=I.env0;refine⟨e0.frames,e0.mod,λb o e=>⟨(e0.bs b o e).1,hidH_none (e0.bs b o e).2⟩,e0.bsz,e0.funs,λb hb=>hidH_none (e0.frf b hb),λb o e=>?_,e0.bare,λx hx c P e=>hidH_vis (e0.tbs x hx c P e) (vis_tbl _)⟩;obtain⟨e1,v⟩:=hidH_is e;exact ObjOk.stayN v.2 (e0.hok b o e1) (λ_ z=>z) (λc xs z=>hidH_vis z (vis_tup xs)) λc ob _ _ z=>hidH_vis z (vis_frzo ob c)
open Classical in
noncomputable def mrg(H H':Hp):Hp:=λb=>match H' b with
 |some o=>some o
 |none=>H b
theorem mrg_some{b:Addr}{o:HO}(h:H' b=some o):mrg H H' b=some o:=by unfold mrg;rw[h]
theorem mrg_none{b:Addr}(h:H' b=none):mrg H H' b=H b:=by unfold mrg;rw[h]
theorem Inv.unhide(I:Inv X ae σ H s)(ho:s'.os=s.os)(hg:AllBare s'.gens)(u:Un (frs X.stack) [] (hidH H) H' s.heap s'.heap)(hok:HOk X.prog X.w H' s'.heap) :
  Inv X ae σ (mrg H H') s'/\(∀b o,H b=some o->mrg H H' b=some o)/\(∀b o,H' b=some o->hidH H b=none->H b=none):=by
 have gone:∀b o,H b=some o->¬vis o->hidH H b=none/\H' b=none:=λb o e v=>by
  have z:=hidH_no e v
  obtain⟨ob,hb⟩:∃ob,s.heap.get? b=some ob:=by
   cases q:s.heap.get? b with
   |some ob=>exact⟨ob,rfl⟩
   | none =>
    exfalso
    cases o with
    |lst xs=>obtain⟨_,_,_,_,e⟩:=I.hok b _ e;rw[q]at e;cases e
    |tup xs=>exact v (vis_tup xs)
    |dK kvs=>obtain⟨_,_,_,_,o,_,_,e,_⟩:=I.hok b _ e;rw[q]at e;cases e
    |dT kvs=>obtain⟨_,_,_,_,o,_,_,e,_⟩:=I.hok b _ e;rw[q]at e;cases e
    |set S n=>obtain⟨o,_,_,_,e,_⟩:=I.hok b _ e;rw[q]at e;cases e
    |ins C dx fs=>obtain⟨_,_,_,e,_⟩:=I.hok b _ e;rw[q]at e;cases e
    |own y=>obtain⟨_,e⟩:=I.hok b _ e;rw[q]at e;cases e
    |xd fs=>obtain⟨_,⟨_,_,_,e,_⟩,_⟩:=I.hok b _ e;rw[q]at e;cases e
    |rng lo hi=>obtain⟨_,_,_,e⟩:=I.hok b _ e;rw[q]at e;cases e
    |frz ob u=>obtain⟨e,_⟩:=I.hok b _ e;rw[q]at e;cases e
    |tbl t=>exact v (vis_tbl t)
    |met f y=>have e:=(show s.heap.get? b=some _ from I.hok b _ e);rw[q]at e;cases e
    |ext φ=>obtain⟨_,⟨_,e⟩,_⟩:=I.hok b _ e;rw[q]at e;cases e
  exact⟨z,u.free b ob hb z zY⟩
 have ext:∀b o,H b=some o->mrg H H' b=some o:=λb o e=>by
  by_cases v:vis o
  .
   have z:=hidH_vis e v
   cases o with
   |tup xs=>exact mrg_some (u.tups b xs z)
   |frz ob w=>exact mrg_some (u.frzs b ob w z)
   |tbl t=>exact mrg_some (u.tbls b t z)
   |_=>exact v.1.elim
  . rw[mrg_none (gone b o e v).2];exact e
 have back:∀b o,H' b=some o->hidH H b=none->H b=none:=λb o e z=>by
  cases q:H b with
  |none=>rfl
  | some o' =>
   by_cases v:vis o'
   . rw[hidH_vis q v]at z;cases z
   . rw[(gone b o' q v).2]at e;cases e
 have hok2:HOk X.prog X.w (mrg H H') s'.heap:=λb o e=>by
  unfold mrg at e;split at e
  . rename_i o' q;cases e;exact(hok b _ q).stay (λc w _ z=>z) (λc z=>mrg_some z) (λc xs z=>mrg_some z) λc ob _ _ z=>mrg_some z
  .
   rename_i q
   have nv:¬vis o:=λv=>by
    have z:=hidH_vis e v
    cases o with
    |tup xs=>rw[u.tups b xs z]at q;cases q
    |frz ob w=>rw[u.frzs b ob w z]at q;cases q
    |tbl t=>rw[u.tbls b t z]at q;cases q
    |_=>exact v.1.elim
   have keepT:∀c o',H c=some o'->¬vis o'->∀w,s.heap.get? c=some w->s'.heap.get? c=some w:=λc o' e' v' w hw=>by refine u.keep c w hw (gone c o' e' v').1 (λhm=>?_) zY;have:=I.stkFree c hm;rw[e']at this;cases this
   refine(I.hok b o e).stay (λc w hc z=>?_) (λc z=>ext c _ z) (λc xs z=>ext c _ z) λc ob _ _ z=>ext c _ z;rcases hc with rfl|hc
   . exact keepT c o e nv w z
   . exact keepT c _ hc (λv=>v.1) w z
 refine⟨I.call' (ch:=[]) ho ⟨λb o e n hf hx=>u.keep b o e (hidH_none n) hf hx,λb o e n hf hx=>u.slot b o e (hidH_none n) hf hx,λb o e n hx=>?_,u.there,λb xs e=>ext b _ e,λb o w e=>ext b _ e,λb ps e=>ext b _ e⟩ hok2 hg (λb z=>absurd z zY),ext,back⟩;rw[mrg_none (u.free b o e (hidH_none n) hx)];exact n
end
section
variable{K:Frag}{Pr H H':Hp}{σ:St}{Z:Ev}
theorem REnv.exten(E:REnv K Pr H σ Z)(h:∀b o,H b=some o->H' b=some o):REnv K Pr H' σ Z :=
 ⟨λb o e=>h b o (E.sub b o e),E.nd,E.off,Paired.impMem E.sl λl hl s q=>q.pres (λb u _ e=>h b u e) l λa e=>by
  obtain⟨vs,e,_⟩:=E.at_own (mem_owns.mpr ⟨l,hl,e⟩)
  rw[h _ _ e,e]⟩
end
mutual
theorem Rep.hid{K:Frag}{H:Hp}:∀{v:V}{d:D},Rep K H v d->Rep K (hidH H) v d
 |_,_,.non=>.non
 |_,_,.bl b=>.bl b
 |_,_,.int i=>.int i
 |_,_,.str x=>.str x
 | _,_,.tup h r=>.tup (by
   rcases h with(h|⟨o,h⟩)|h
   .
    exact .inl (.inl (hidH_vis h (vis_tup _)))
   .
    exact .inl (.inr ⟨o,hidH_vis h ⟨True.intro,True.intro⟩⟩)
   .
    exact .inr h) (Reps.hid r)
 | _,_,.lst h r=>.lst (by
   rcases h with⟨o,h⟩|h
   .
    exact .inl ⟨o,hidH_vis h ⟨True.intro,True.intro⟩⟩
   .
    exact .inr h) (Reps.hid r)
 |_,_,.dct h=>.dct (hidH_vis h ⟨True.intro,True.intro⟩)
 | _,_,.exc h hv hc hn hs hq hf r=>.exc (hidH_vis h ⟨True.intro,hv⟩) hv hc hn hs hq (by
   rcases hf with hf|⟨d,od,e,h,l⟩
   .
    exact .inl hf
   .
    exact .inr ⟨d,od,e,hidH_vis h ⟨True.intro,True.intro⟩,l⟩) (Reps.hid r)
 |_,_,.fn hl hf hq hc hz hd hv hm r=>.fn hl (hidH_vis hf (vis_frzo _ _)) (hidH_vis hq (vis_frzo _ _)) hc (hidH_vis hz (vis_frzo _ _)) hd hv hm (Rep.hid r)
 |_,_,.dk h r=>.dk (hidH_vis h ⟨True.intro,True.intro⟩) (Reps.hid r)
 |_,_,.gf h ho hk=>.gf h ho hk
theorem Reps.hid{K:Frag}{H:Hp}:∀{vs:List V}{ds:List D},Reps K H vs ds->Reps K (hidH H) vs ds
 |_,_,.nil=>.nil
 |_,_,.cons h t=>.cons (Rep.hid h) (Reps.hid t)
end
theorem vi_k1:typeOf (.type "ValueError")=pure (.type "type"):=kitMeta_of zd
theorem vi_k2:Manifest.isStub "ValueError"=false:=by decide +kernel
theorem vi_k3:handedIn (.builtin "ValueError.__init__")=true:=by decide +kernel
theorem vinit_cls(K:Frag):findCls K (.type "ValueError") (.type "type") "__init__"=some (.val (.builtin "ValueError.__init__")):=by kernel_rfl
theorem Fly.at{h h':Heap}{e:Addr}{cls:Value}{dx:Option Addr}(f:Fly h e cls dx none)(k:∀o,h.get? e=some o->h'.get? e=some o):Fly h' e cls dx none:=by obtain⟨vs,sl,he,hz,h1⟩:=f;exact⟨vs,sl,k _ he,hz,h1⟩
noncomputable def XO(e:Addr)(cls:Value)(dx:Option Addr):HO:=.ext λh=>Fly h e cls dx none
noncomputable def XD(d:Addr)(fs:List (Str×V)):HO:=.ext λh=>∃mA,h.Ns1 d mA/\(∀f,RelO (fs.lookup f) (mA f))/\PySem.Within mA (fs.map (·.1))
theorem XO.ok{P:Program}{w:World}{H:Hp}{h:Heap}{e:Addr}{cls:Value}{dx:Option Addr}(f:Fly h e cls dx none):ObjOk P w H h e (XO e cls dx):=by obtain⟨vs,sl,he,hz,h1⟩:=f;exact⟨⟨vs,sl,he,hz,h1⟩,⟨_,he⟩,λh1 h2 p k=>p.at k⟩
theorem XD.ok{P:Program}{w:World}{H:Hp}{h:Heap}{d:Addr}{fs:List (Str×V)}{mA:Str->Option Value}(n:h.Ns1 d mA)(r:∀f,RelO (fs.lookup f) (mA f))(wi:PySem.Within mA (fs.map (·.1))):ObjOk P w H h d (XD d fs) :=
 ⟨⟨mA,n,r,wi⟩,let ⟨o,_,_,e,_⟩:=n;⟨o,e⟩,λh1 h2 ⟨mA,n,r⟩ k=>⟨mA,n.at k,r⟩⟩
theorem upd_id{H:Hp}{a:Addr}{o:HO}(h:H a=some o):upd H a o=H:=by
 funext b;unfold upd;split
 . rename_i e;rw[e,h]
 . rfl
section
variable{X:Cx}{ae:List (Addr×Obj)}{σ:St}{H:Hp}{s:Shared}
theorem Inv.xo{e:Addr}{cls:Value}{dx:Option Addr}(I:Inv X ae σ H s)(h:H e=some (XO e cls dx)):Fly s.heap e cls dx none:=(I.hok e _ h).1
theorem Inv.xd{d:Addr}{fs:List (Str×V)}(I:Inv X ae σ H s)(h:H d=some (XD d fs)):∃mA,s.heap.Ns1 d mA/\(∀f,RelO (fs.lookup f) (mA f))/\PySem.Within mA (fs.map (·.1)):=(I.hok d _ h).1
theorem Fly.inst{h:Heap}{e C:Addr}{dx T:Option Addr}(f:Fly h e (.ref C) dx T)(hd:∀d,dx=some d->∃o,h.get? d=some o):∃vs sl od,InstAt h e ⟨.ref C,dx,.fields vs,sl⟩ C od/\1<vs.size:=by
 obtain⟨vs,sl,he,hz,_⟩:=f
 cases dx with
 |none=>exact⟨vs,sl,none,⟨he,rfl,rfl,trivial⟩,hz⟩
 | some d =>
  obtain⟨o,ho⟩:=hd d rfl;exact⟨vs,sl,some o,⟨he,rfl,rfl,ho⟩,hz⟩
end
section
variable{X:Cx}{a b:Expr}{p1 p2 pos:Pos}{t:TA}
def tVinit(K:Frag)(t:TA):TE:=λσ H Q=>t σ H λvs H1=>∃e tx c C L cd,vs=[.ref e,tx]/\H1 e=some (XO e (.ref C) none)/\XStd K c C L cd/\Q .non H1
theorem pe_vinit{pl:Sem Bool} (hg:Gl X "ValueError") (hm:X.mg "ValueError"=none) (ha:PA X [a,b] t) (hs:starEach [a,b] X.env=(false,eval a X.env)::starEach [b] X.env:=by rfl) (hpl:(backTo pos (starEach [b] X.env)).any (·.1)=false:=by rfl)
  (ht:eval (.Call (.Attribute (.Name "ValueError" p1) "__init__" p2) [a,b] [] pos) X.env=(do
   let ov <- eval (.Name "ValueError" p1) X.env
   standAt p2.atName
   let (f,first) <- holding [ov] (getMethod ov "__init__" pl)
   callWith pos f first (backTo pos (starEach [a,b] X.env)) (backToKw pos (keywordEach [] X.env))):=by rfl) :
  PE X (.Call (.Attribute (.Name "ValueError" p1) "__init__" p2) [a,b] [] pos) (tVinit X.K t):=by
 intro ae s σ H Q I h;refine methodCall_KW (ld_blt I hg hm (show bootBuiltins "ValueError"=some (.type "ValueError") by decide +kernel) ?_) ht;obtain⟨m,F⟩:=I.fr;have k4:=vinit_cls X.K;refine @method_type _ _ _ _ _ X.K _ _ _ _ _ _ _ _ F I.ok.mod.kin vi_k1 vi_k2 k4 vi_k3 ?_;have I1:=I.tok (s.toks+1);have hA:=ha pos ae _ σ H _ I1 h;rw[hs]at hA ⊢;refine Calls.callWith_builtin (by show(false ||(backTo pos (starEach [b] X.env)).any (·.1))=false;rw[hpl]<;>rfl) (Calls.evalArgs_plain (thn hA λus s2 ⟨vs,H2,I2,r,e,tx,c,C,L,cd,ev,he,S,q⟩=>?_));subst ev;obtain⟨u1,u2,rfl,r1,r2⟩:=vals2 r;cases r1;obtain⟨vs,sl,od,Ia,hz⟩:=(I2.xo he).inst (λd z=>nomatch z);refine xinit S I2.kIn Ia rfl zZ λt'=>⟨.non,H2,?_,rfl,q⟩;have hx1:=aq (h:=s2.heap) {cls:=.type "tuple",data:=.seq #[u2] } Ia.at_;have z:=I2.write (x:=e) (e:=e) (o:=XO e (.ref C) none) (h':=(s2.heap.push {cls:=.type "tuple",data:=.seq #[u2] }).update e (Obj.mapFields (·.setIfInBounds 0 (.ref s2.heap.objs.size)))) (t':=t') (by rw[he]; exact True.intro) (.inl rfl) (λb u hb e1=>(aN _ _ (bN hb)).trans (aq _ e1)) ⟨_,bz _ hx1 rfl⟩ (XO.ok ?_)
 . rw[upd_id he]at z;exact z
 . obtain⟨vs',sl',he',hz',h1'⟩:=I2.xo he;have e2:=Ia.at_.symm.trans he';cases e2;refine⟨vs.setIfInBounds 0 (.ref s2.heap.objs.size),sl,bz _ hx1 rfl,by simpa using hz',?_⟩;show(vs.setIfInBounds 0 _)[1]?=some .none;rw[Array.getElem?_setIfInBounds_ne ze];exact h1'
noncomputable def spLI(K:Frag):Sp:=λvs H Q _=>∃e tx c C L cd,vs=[.ref e,tx]/\H e=some (XO e (.ref C) none)/\XStd K c C L cd/\Q .non H
structure XLoad (K:Frag) (mg:Str->Option Value) (L fL:Addr) (fd:FuncData) (st:Stmt):Prop where
 m:mg "LoadError"=some (.ref L)
 rd:readsIn K L (.type "type")=true
 sg:specialIn K (.ref L) "__getattribute__"=some (some (.builtin "type.__getattribute__"))
 fc:findCls K (.ref L) (.type "type") "__init__"=some (.val (.ref fL))
 f:Fun K "__init__" "LoadError.__init__" st fL fd
 b:Binds K fd ["self","text"] []
theorem pe_linit{pl:Sem Bool}{k L fL:Addr}{fd:FuncData}{st:Stmt}(T:XLoad X.K X.mg L fL fd st) (F:FnOk X.prog X.w X.K X.mg X.base CX0 k fL fd ["self","text"] (spLI X.K)) (hr:Room k X.A) (hg:Gl X "LoadError") (ha:PA X [a,b] t)
  (hs:starEach [a,b] X.env=(false,eval a X.env)::starEach [b] X.env:=by rfl) (hpl:(backTo pos (starEach [b] X.env)).any (·.1)=false:=by rfl)
  (ht:eval (.Call (.Attribute (.Name "LoadError" p1) "__init__" p2) [a,b] [] pos) X.env=(do
   let ov <- eval (.Name "LoadError" p1) X.env
   standAt p2.atName
   let (f,first) <- holding [ov] (getMethod ov "__init__" pl)
   callWith pos f first (backTo pos (starEach [a,b] X.env)) (backToKw pos (keywordEach [] X.env))):=by rfl) :
  PE X (.Call (.Attribute (.Name "LoadError" p1) "__init__" p2) [a,b] [] pos) (tVinit X.K t):=by
 intro ae s σ H Q I h;refine methodCall_KW (ld_glob I hg T.m ?_) ht;refine method_cls I.kIn T.sg (cls_read I.kIn T.rd T.fc (ar ?_));have k3:handedIn (.ref fL)=true:=rfl;show wpAny _ _ (handedOut (.ref fL)) _ _ _;rw[handedOut_of k3];refine ar ?_;have I1:=I.tok (s.toks+1);refine callWith_K (h₀:=X.base) I.ok.mod.kin T.f.kp (thn (ha pos ae _ σ H _ I1 h) λus s1 ⟨vs,H1,I2,r,q⟩=>⟨I2.kIn,?_⟩) hs hpl;refine run_fn F hr T.b .nil pass0 I2 r ?_;rw[aV];exact q
def sXset(K:Frag)(ta tv:TE)(f:Str):TS:=λD σ H=>tv σ H λy H1=>ta σ H1 λx H2=>∃e c C L cd,x=.ref e/\XStd K c C L cd/\findIn K (.ref C) f=some none /\
 ((H2 e=some (XO e (.ref C) none)/\∀d,H2 d=none->d≠e->D.nx σ (upd (upd H2 d (XD d [(f,y)])) e (XO e (.ref C) (some d)))) ∨
  ∃d fs,H2 e=some (XO e (.ref C) (some d))/\H2 d=some (XD d fs)/\fs.lookup f=none/\fs.length<=900/\D.nx σ (upd H2 d (XD d (fs++[(f,y)]))))
theorem lookup_app{α:Type}{f g:Str}{y:α}:∀{fs:List (Str×α)},fs.lookup f=none->(fs++[(f,y)]).lookup g=if g=f then some y else fs.lookup g
 | [],_=>by
  by_cases h:g=f
  . subst h;simp
  . have:(g == f)=false:=aT.mpr h;simp[List.lookup,this,h]
 | (k,v)::fs,h=>by
  have h':(f == k)=false/\fs.lookup f=none:=by
   cases e:(f == k)with
   |true=>simp[List.lookup,e]at h
   |false=>exact⟨rfl,by simpa[List.lookup,e]using h⟩
  have ih:=lookup_app (g:=g) (y:=y) h'.2
  cases e:(g == k)with
  | true =>
   have:g≠f:=λz=>by subst z;rw[h'.1]at e;cases e
   simp[List.lookup,e,this]
  | false =>
   simp only[List.cons_append,List.lookup,e];exact ih
theorem ps_xset{o value:Expr}{f:Str}{pos':Pos}{ta tv:TE}(ha:PE X o ta)(hv:PE X value tv)(hs:swapsWith value (some (.Attribute o f pos')) pos.line X.env=pure false:=by rfl):PS X (.Assign [.Attribute o f pos'] value pos) (sXset X.K ta tv f):=by
 intro ae s σ H D I h;refine plainObj_wpAny_Assign_Attribute (thn (hv ae s σ H _ I h) λu s1 ⟨y,H1,I1,ry,q⟩=>thn (ha ae s1 σ H1 _ I1 q) λov s2 ⟨x,H2,I2,rx,e,c,C,L,cd,ex,S,hf,q2⟩=>?_) hs;subst ex;obtain rfl:ov=Value.ref e:=rx;rcases q2 with⟨he,q2⟩|⟨d,fs,he,hd,hl,hz,q2⟩
 .
  obtain⟨vs,sl,od,Ia,hz⟩:=(I2.xo he).inst (λd z=>nomatch z);have dn:H2 s2.heap.objs.size=none:=I2.hok.fresh (ay _);have dne:s2.heap.objs.size≠e:=Nat.ne_of_gt (au Ia.at_);refine xset_new S I2.kIn Ia rfl hf λh' tk e1 n1 k1=>⟨σ,_,?_,q2 s2.heap.objs.size dn dne⟩
  have hd1:ObjOk X.prog X.w (upd (upd H2 s2.heap.objs.size (XD s2.heap.objs.size [(f,y)])) e (XO e (.ref C) (some s2.heap.objs.size))) h' s2.heap.objs.size (XD s2.heap.objs.size [(f,y)]):=by
   refine XD.ok n1 (λg=>?_) λg hg=>?_
   .
    by_cases z:g=f
    . subst z;simp[RelO,ry]
    . have:(g == f)=false:=aT.mpr z;simp[List.lookup,this,z,RelO]
   .
    by_cases z:g=f
    . simp[z]
    . simp[z]at hg
  obtain⟨vs0,sl0,he0,hz0,h10⟩:=I2.xo he;have e2:=Ia.at_.symm.trans he0;cases e2;have ho1:ObjOk X.prog X.w (upd (upd H2 s2.heap.objs.size (XD s2.heap.objs.size [(f,y)])) e (XO e (.ref C) (some s2.heap.objs.size))) h' e (XO e (.ref C) (some s2.heap.objs.size)):=XO.ok ⟨vs,sl,e1,hz0,h10⟩;have tr:∀b o,H2 b=some o->b≠e->upd (upd H2 s2.heap.objs.size (XD s2.heap.objs.size [(f,y)])) e (XO e (.ref C) (some s2.heap.objs.size)) b=some o:=λb o q hb=>by rw[upd_ne hb,upd_ne (ne_of_none q dn)];exact q
  have nx:∀b o,H2 b=some o->(∀ψ,o≠.ext ψ)->b≠e:=λb o q n z=>by subst z;rw[he]at q;cases q;exact n _ rfl
  refine I2.un ⟨λb o hb n _ _=>k1 b o (λz=>by subst z;rw[he]at n;cases n) hb,λb o hb n _ _=>⟨o.slots,k1 b o (λz=>by subst z;rw[he]at n;cases n) hb⟩,λb o hb n _=>?_,λb o hb _=>?_,λb xs q=>tr b _ q (nx b _ q λ_ z=>nomatch z),λb o' u' q=>tr b _ q (nx b _ q λ_ z=>nomatch z),λb ps q=>tr b _ q (nx b _ q λ_ z=>nomatch z)⟩ λb o q=>?_
  . rw[upd_ne (λz=>by subst z;rw[he]at n;cases n),upd_ne (aR (au hb))];exact n
  .
   by_cases z:b=e
   . subst z;exact⟨_,e1⟩
   . exact⟨o,k1 b o z hb⟩
  .
   by_cases hb:b=e
   . subst hb;rw[upd_same]at q;cases q;exact ho1
   .
    by_cases hb2:b=s2.heap.objs.size
    . subst hb2;rw[upd_ne hb,upd_same]at q;cases q;exact hd1
    .
     rw[upd_ne hb,upd_ne hb2]at q;refine(I2.hok b o q).stay (λc v hc z=>k1 c v ?_ z) (λc z=>tr c _ z (nx c _ z λ_ z=>nomatch z)) (λc xs z=>tr c _ z (nx c _ z λ_ z=>nomatch z)) λc ob _ _ z=>tr c _ z (nx c _ z λ_ z=>nomatch z);rcases hc with rfl|hc
     . exact hb
     . exact nx c _ hc λ_ z=>nomatch z
 .
  obtain⟨mA,nA,rA,wA⟩:=I2.xd hd;obtain⟨od,_,_,hod,_⟩:=id nA;obtain⟨vs,sl,od',Ia,hz'⟩:=(I2.xo he).inst (λd' z=>by cases z;exact⟨od,hod⟩);refine xset_old S I2.kIn Ia rfl nA wA (by rw[aC];omega) hf λh' tk n1 sb=>⟨σ,_,?_,q2⟩
  refine I2.write (x:=d) (e:=d) (by rw[hd];exact True.intro) (.inl rfl) (λb u hb e1=>(sb.2 b hb).trans e1) (let ⟨o,_,_,e1,_⟩:=n1;⟨o,e1⟩) (XD.ok n1 (λg=>?_) λg hg=>?_)
  .
   rw[lookup_app hl];by_cases z:g=f
   . subst z;simp[RelO,ry]
   . rw[if_neg z,if_neg z];exact rA g
  .
   by_cases z:g=f
   . subst z;simp
   . rw[if_neg z]at hg;have:=wA g hg;simp at this ⊢;exact .inl this
end
noncomputable def spXI(K:Frag)(ns:List Str):Sp:=λvs H Q _=>∃e vals c C L cd,vs=.ref e::vals/\H e=some (XO e (.ref C) none)/\XStd K c C L cd/\(∀f∈ns,findIn K (.ref C) f=some none)/\vals.length=ns.length /\
 ∀d,H d=none->d≠e->Q .non (upd (upd H d (XD d (ns.zip vals))) e (XO e (.ref C) (some d)))
def tLI(K:Frag):TS:=tDrop (tVinit K (tCons (tVar 0) (tCons (tVar 1) tNil)))
def tI1(K:Frag)(x:V)(f:Str):TS:=tSeq (tDrop (tVinit K (tCons (tVar 0) (tCons (tC x) tNil)))) (sXset K (tVar 0) (tVar 1) f)
theorem read_LI{K:Frag}{vs:List V}{H:Hp}{Q:VK}{E:XK}{a b:Str}(h:spLI K vs H Q E):tLI K {nx:=λ_ H'=>Q .non H',rt:=Q} (start [a,b] vs) H:=by obtain⟨e,tx,c,C,L,cd,rfl,he,S,q⟩:=h;exact⟨_,rfl,_,rfl,e,tx,c,C,L,cd,rfl,he,S,q⟩
theorem read_I1{K:Frag}{vs:List V}{H:Hp}{Q:VK}{E:XK}{a b f:Str}{x:V}(h:spXI K [f] vs H Q E):tI1 K x f {nx:=λ_ H'=>Q .non H',rt:=Q} (start [a,b] vs) H:=by
 obtain⟨e,vals,c,C,L,cd,rfl,he,S,hf,hl,q⟩:=h
 match vals,hl with
 |[v],_=>exact⟨_,rfl,e,x,c,C,L,cd,rfl,he,S,_,rfl,_,rfl,e,c,C,L,cd,rfl,S,hf f zY,.inl ⟨he,λd hd hde=>q d hd hde⟩⟩
structure Xc where
 c:Str
 ns:List Str
 ds:List D
def XFly(K:Frag)(H:Hp)(cls:Value)(dx:Option Addr)(x:Xc):Prop:=∃C vs,cls=.ref C/\excStd K x.c C=true/\(∀f∈x.ns,findIn K (.ref C) f=some none)/\XF H dx x.ns vs/\Reps K H vs x.ds
theorem XFly.ext{K:Frag}{H H':Hp}{cls:Value}{dx:Option Addr}{x:Xc}(f:XFly K H cls dx x)(h:∀b o,H b=some o->H' b=some o):XFly K H' cls dx x:=by obtain⟨C,vs,e,s,fq,a,r⟩:=f;exact⟨C,vs,e,s,fq,a.pres λb o _ q=>h b o q,r.pres λb o _ q=>h b o q⟩
noncomputable def CXr(P:Program)(w:World):CXT:=λouter H s E e s'=>∃a cls dx T H',e=.ref a/\s'.os=s.os/\AllBare s'.gens/\Un (frs outer) [] H H' s.heap s'.heap/\HOk P w H' s'.heap/\Fly s'.heap a cls dx (some T)/\H' a=none/\H' T=none /\
 s.heap.objs.size<=a/\s.heap.objs.size<=T/\E cls dx H'
section
variable{X:Cx}{ae:List (Addr×Obj)}{σ:St}{H:Hp}{s:Shared}
theorem HOk.there{P:Program}{w:World}{H:Hp}{h:Heap}(x:HOk P w H h){b:Addr}{o:HO}(e:H b=some o):∃u,h.get? b=some u:=by
 have lt:=x.lt e
 cases o with
 |lst xs=>obtain⟨_,_,_,_,e⟩:=x b _ e;exact⟨_,e⟩
 |tup xs=>obtain⟨_,_,_,o,e,_⟩:=x b _ e;exact⟨_,e⟩
 |dK kvs=>obtain⟨_,_,_,_,o,_,_,e,_⟩:=x b _ e;exact⟨_,e⟩
 |dT kvs=>obtain⟨_,_,_,_,o,_,_,e,_⟩:=x b _ e;exact⟨_,e⟩
 |set S n=>obtain⟨o,_,_,_,e,_⟩:=x b _ e;exact⟨_,e⟩
 |ins C dx fs=>obtain⟨_,_,_,e,_⟩:=x b _ e;exact⟨_,e⟩
 |own y=>obtain⟨_,e⟩:=x b _ e;exact⟨_,e⟩
 |xd fs=>obtain⟨_,⟨_,_,_,e,_⟩,_⟩:=x b _ e;exact⟨_,e⟩
 |rng lo hi=>obtain⟨_,_,_,e⟩:=x b _ e;exact⟨_,e⟩
 |frz ob u=>obtain⟨e,_⟩:=x b _ e;exact⟨_,e⟩
 |tbl t=>obtain⟨_,e,_⟩:=x b _ e;exact⟨_,e⟩
 |met f y=>exact⟨_,(show h.get? b=some _ from x b _ e)⟩
 |ext φ=>obtain⟨_,⟨_,e⟩,_⟩:=x b _ e;exact⟨_,e⟩
structure New (X:Cx) (ae:List (Addr×Obj)) (b:Addr):Prop where
 s0:X.s₀.heap.objs.size<=b
 loc:b≠X.env.locals
 cel:∀x c,X.env.cells.lookup x=some c->c≠b
 pin:∀p∈X.pn++ae,p.1≠b
theorem Inv.newer(I:Inv X ae σ H s){b:Addr}(h:s.heap.objs.size<=b):New X ae b:=by
 refine⟨aG I.sz h,λz=>?_,λx c e z=>?_,λp hp z=>?_⟩
 . have:=I.lt;rw[<- z]at this;exact absurd this (Nat.not_lt.mpr h)
 . obtain⟨v,o,ho,_⟩:=I.cell x c e;have:=au ho;rw[z]at this;exact absurd this (Nat.not_lt.mpr h)
 . have:=au (I.pin p hp).1;rw[z]at this;exact absurd this (Nat.not_lt.mpr h)
structure Raised (X:Cx) (ae:List (Addr×Obj)) (H:Hp) (s:Shared) (a:Addr) (cls:Value) (dx T:Option Addr):Prop where
 fly:Fly s.heap a cls dx T
 na:H a=none
 nt:∀t,T=some t->H t=none
 wa:New X ae a
 wt:∀t,T=some t->New X ae t
def XOK(X:Cx)(xp:Xc->Prop):Prop:=∀(ae:List (Addr×Obj))(σ:St)(H:Hp)(s:Shared)(a:Addr)(cls:Value)(dx T:Option Addr)(x:Xc),Inv X ae σ H s->Raised X ae H s a cls dx T->XFly X.K H cls dx x->xp x->X.xe (.ref a) s
end
theorem xok_def{P:Program}{w:World}{K:Frag}{mg:Str->Option Value}{base:Heap}{N:List Str}{qual:Str}{scope:Scope}{f:Addr}{cd:Value}{A:Around}{outer:List Env}{s:Shared}{H:Hp}{E:XK}{xp:Xc->Prop}
  (h:∀cls dx H' x,XFly K H' cls dx x->xp x->E cls dx H'):XOK (cxOf (CXr P w) P w K mg base N qual scope f cd A outer s H E) xp:=by
 intro ae σ H1 s1 a cls dx T x I R F q;show wpAny (model P w) _ (leaving _ (.ref a)) _ _ s1;unfold leaving;have hl:=I.stack;refine ah (xnote (F:=s.heap.objs.size) I.ok.frames hl rfl R.fly λh' T' fl hT k1 k2=>?_);have neL:∀b o,s.heap.get? b=some o->b≠s.heap.objs.size:=λb o e=>aR (au e);have neA:∀b o,s.heap.get? b=some o->b≠a:=λb o e=>aR (aj (au e) R.wa.s0);have neT:∀b o,s.heap.get? b=some o->some b≠T:=λb o e z=>absurd (au e) (Nat.not_lt.mpr (R.wt b z.symm).s0);have tra:∀b o,H1 b=some o->b≠a/\some b≠T/\b∉frs (envOfC qual scope s.heap.objs.size f cd::outer):=λb o e=>by refine⟨λz=>(by subst z;rw[R.na]at e;cases e),λz=>(by rw[R.nt b z.symm]at e;cases e),λz=>?_⟩;have:=I.stkFree b z;rw[e]at this;cases this
 refine⟨a,cls,dx,T',H1,rfl,I.os,I.bare,⟨λb o e n hf hx=>?_,λb o e n hf hx=>?_,λb o e n hx=>I.base.free b o e n hx,λb o e hx=>?_,I.base.tups,I.base.frzs,I.base.tbls⟩,λb o e=>?_,fl,R.na,?_,R.wa.s0,aG I.sz hT,h cls dx H1 x F q⟩
 .
  refine k1 b o (neA b o e) (neT b o e) (λhm=>?_) (I.base.keep b o e n hf hx);rcases aD.mp (show b∈s.heap.objs.size::frs outer from hm)with z|z
  . exact neL b o e z
  . exact hf z
 . obtain⟨sl,e1⟩:=I.base.slot b o e n hf hx;obtain⟨sl',e2⟩:=k2 b _ (neA b o e) (neT b o e) e1;exact⟨sl',e2⟩
 . obtain⟨o',e1⟩:=I.base.there b o e hx;obtain⟨sl',e2⟩:=k2 b _ (neA b o e) (neT b o e) e1;exact⟨_,e2⟩
 .
  refine(I.hok b o e).stay (λc v hc z=>?_) (λ_ z=>z) (λ_ _ z=>z) λ_ _ _ _ z=>z
  have ht:∃o',H1 c=some o':=by
   rcases hc with rfl|hc
   . exact⟨o,e⟩
   . exact⟨_,hc⟩
  obtain⟨o',ho'⟩:=ht;obtain⟨t1,t2,t3⟩:=tra c o' ho';exact k1 c v t1 t2 t3 z
 . exact I.hok.fresh hT
abbrev FSX:=List D->(L->Prop)->(Xc->Prop)->Prop
noncomputable def spX(K:Frag)(n:Nat)(fs:FSX):Sp:=λvs H Q E=>vs.length=n/\∃ds ag xp,Reps K H vs ds/\fs ds ag xp/\(∀v H' r,REnv K H H' [some v] [r]->ag r->Q v H')/\∀cls dx H' x,XFly K H' cls dx x->xp x->E cls dx H'
def wCallX(fs:FSX)(xp:Xc->Prop)(t:W (List L)):W L:=λZ ag=>t Z λls Z1=>toDs ls λds=>fs ds (λr=>ag r Z1) xp
theorem REnv.ds{K:Frag}{H:Hp}:∀{vs:List V}{ds:List D},Reps K H vs ds->Paired (Slot1 K H) (vs.map some) (ds.map .d)
 |_,_,.nil=>.nil
 |_,_,.cons h t=>.cons ⟨_,rfl,h⟩ (REnv.ds t)
section
variable{X:Cx}{k n:Nat}{f:Addr}{fd:FuncData}{ps:List Str}{fs:FSX}{x:Str}{p pos:Pos}{e:Expr}{es:List Expr}{bs:List (Option Nat)}{t:W (List L)}{xp:Xc->Prop}
theorem run_x{ae:List (Addr×Obj)}{σ:St}{H Pr:Hp}{s:Shared}{Z:Ev}{us:List Value}{vs:List V}{ds:List D}{ag:L->Ev->Prop}{Ex:Value->Shared->Prop}(F:FnOk X.prog X.w X.K X.mg X.base (CXr X.prog X.w) k f fd ps (spX X.K n fs))(hr:Room k X.A)(hb:Binds X.K fd ps [])(hl:vs.length=n)
  (I:Inv X ae σ H s) (E:REnv X.K Pr H σ Z) (r:Vals vs us) (rs:Reps X.K H vs ds) (h:fs ds (λr=>ag r Z) xp)
  (hx:∀(s':Shared)(H':Hp)(a:Addr)(cls:Value)(dx T:Option Addr)(y:Xc),Inv X ae σ H' s'->REnv X.K Pr H' σ Z->Raised X ae H' s' a cls dx T->XFly X.K H' cls dx y->xp y->Ex (.ref a) s') :
  wpAny (model X.prog X.w) X.A (call (.ref f) us) (EL X ae σ Pr ag) Ex s:=by
 have hsp:spX X.K n fs vs (hidH H) (λv H'=>∃r,REnv X.K (hidH H) H' [some v] [r]/\ag r Z) (λcls dx H'=>∃y,XFly X.K H' cls dx y/\xp y) :=
  ⟨hl,ds,_,xp,rs.hid,h,λv H' r E1 p=>⟨r,E1,p⟩,λcls dx H' y q1 q2=>⟨y,q1,q2⟩⟩
 have hl':us.length=ps.length:=by rw[<- r.length];exact F.len _ _ _ _ hsp
 have bt:=hb s us I.kIn (by rw[aV];exact hl');rw[aV]at bt;refine wpAny_call (codeAny_mono (F.run X.A X.stack s (hidH H) ⟨us,[]⟩ us vs _ _ hr I.hide bt r hsp) λres s' hq=>?_)
 cases res with
 | error e =>
  obtain⟨a,cls,dx,T,H',rfl,os,bare,un,hok,fl,na,nt,za,zt,y,q1,q2⟩:=hq;obtain⟨I2,ext,back⟩:=I.unhide os bare un hok;refine hx s' _ a cls dx (some T) y I2 (E.exten ext) ⟨fl,?_,λt et=>?_,I.newer za,λt et=>by cases et;exact I.newer zt⟩ (q1.ext λb o q=>mrg_some q) q2
  . rw[mrg_none na];exact I.hok.fresh za
  . cases et;rw[mrg_none nt];exact I.hok.fresh zt
 | ok fl =>
  cases fl with
  | ret u =>
   obtain⟨v,H',os,bare,un,hok,rv,r,E2,p⟩:=hq;obtain⟨I2,ext,back⟩:=I.unhide os bare un hok;have E3:=E.exten ext
   have fr:∀a∈ownsL r,H a=none/\∃vs,H' a=some vs/\OMut vs:=λa ha=>by
    have ha':a∈owns [r]:=by rw[owns_cons];exact av _ ha
    obtain⟨vs',e1,m1⟩:=E2.at_own ha';exact⟨back a _ e1 (E2.off a ha'),vs',e1,m1⟩
   refine⟨v,_,r,Z,I2,rv,⟨E3.sub,?_,λa ha=>?_,.cons ?_ E3.sl⟩,p⟩
   . rw[owns_cons];have n1:=E2.nd;rw[owns_cons]at n1;refine aJ.mpr ⟨(aJ.mp n1).1,E3.nd,λa ha b hb z=>?_⟩;subst z;obtain⟨vs',e1,_⟩:=E.at_own hb;rw[(fr a ha).1]at e1;cases e1
   .
    rw[owns_cons]at ha;rcases aH.mp ha with z|z
    .
     cases q:Pr a with
     |none=>rfl
     |some o=>have:=E.sub a o q;rw[(fr a z).1]at this;cases this
    . exact E3.off a z
   .
    have sl:=E2.sl
    cases sl with
    | cons q t =>
     exact q.pres (λb o _ e=>mrg_some e) r λa ha=>by obtain⟨_,vs',e1,_⟩:=fr a ha;rw[mrg_some e1,e1]
  |next=>exact False.elim hq
  |brk=>exact False.elim hq
  |cont=>exact False.elim hq
theorem pl_callX(F:FnOk X.prog X.w X.K X.mg X.base (CXr X.prog X.w) k f fd ps (spX X.K n fs))(hr:Room k X.A)(hg:Gl X x)(hm:X.mg x=some (.ref f))(hk:PySem.W.keepIn X.K (.ref f)=true)(hb:Binds X.K fd ps [])(hx:XOK X xp)
  (ha:PAL X (e::es) bs t) (hn:bs.length=n) (hdb:(x == ("__debug__" : Str))=false:=by decide) (he:starEach (e::es) X.env=(false,eval e X.env)::starEach es X.env:=by rfl) (hpl:(backTo pos (starEach es X.env)).any (·.1)=false:=by rfl) :
  PL X (.Call (.Name x p) (e::es) [] pos) (wCallX fs xp t):=by
 intro ae s σ H Pr Z ag I E0 h;refine bh (ld_glob I hg hm ?_ hdb);refine bR (h₀:=X.base) I.ok.mod.kin hk (thn (ha pos ae s σ H Pr Z _ I E0 h) λus s1 ⟨vs,H1,ls,Z1,I1,r,hl,hbl,E1,hv,q⟩=>⟨I1.kIn,?_⟩) he hpl;obtain⟨ds,rfl,q1⟩:=toDs_is q;have af:vs.length=ds.length:=by simpa using hl
 exact run_x (ag:=ag) F hr hb (hbl.trans hn) I1 (E1.drop (by simp[af])) r (reps_of af E1) q1 λs' H' a cls dx T y I2 _ R q1 q2=>hx ae σ H' s' a cls dx T y I2 R q1 q2
noncomputable def xflds(ns:List Str)(ds:List D):List D:=if ns=[]then[]else ds
def wRaise(c:Str)(ns:List Str)(xp:Xc->Prop)(t:W (List L)):W Fl:=λZ _=>t Z λls _=>toDs ls λds=>(ns=[]∨ds.length=ns.length)/\ds.length<=8/\xp ⟨c,ns,xflds ns ds⟩
structure XT (K:Frag) (mg:Str->Option Value) (c:Str) (C fI:Addr) (fd:FuncData) (ps:List Str) (ns:List Str):Prop where
 m:mg c=some (.ref C)
 s:excStd K c C=true
 mkx:XMk K C fI
 b:Binds K fd ps []
 kp:PySem.W.keepIn K (.ref C)=true
 fn:∀f∈ns,findIn K (.ref C) f=some none
def InitOk(K:Frag)(sp:Sp)(C:Addr)(ns:List Str)(vs:List V):Prop:=∀(e:Addr)(H:Hp)(Q:VK),H e=some (XO e (.ref C) none) ->
 (∀H2 dx,(∀b,b≠e->∀o,H b=some o->H2 b=some o)->H2 e=some (XO e (.ref C) dx)->((ns=[]/\dx=none)∨∃d,dx=some d/\d≠e/\H2 d=some (XD d (ns.zip vs))/\H d=none/\ns.length=vs.length)->Q .non H2)->sp (.ref e::vs) H Q E0
theorem init_xi{K:Frag}{c:Str}{C:Addr}{ns:List Str}{vs:List V}(h:excStd K c C=true)(hf:∀f∈ns,findIn K (.ref C) f=some none)(hl:vs.length=ns.length):InitOk K (spXI K ns) C ns vs:=λe H Q he q=>by
 obtain⟨L,cd,S⟩:=excStd_is h;refine⟨e,vs,c,C,L,cd,rfl,he,S,hf,hl,λd hd hde=>q _ (some d) (λb hb o z=>?_) upd_same (.inr ⟨d,rfl,hde,?_,hd,hl.symm⟩)⟩
 . rw[upd_ne hb,upd_ne (ne_of_none z hd)];exact z
 . rw[upd_ne hde,upd_same]
theorem run_xmake{c:Str}{C fI:Addr}{ns:List Str}{sp:Sp}{ae:List (Addr×Obj)}{σ:St}{H:Hp}{s:Shared}{us:List Value}{vs:List V}{Q:Value->Shared->Prop}(T:XT X.K X.mg c C fI fd ps ns)(F:FnOk X.prog X.w X.K X.mg X.base CX0 k fI fd ps sp)(hi:InitOk X.K sp C ns vs)(hr:Room (k+1) X.A)(hz:us.length<=sizeLine)
  (I:Inv X ae σ H s) (r:Vals vs us)
  (hq:∀(s':Shared)(H':Hp)(e:Addr)(dx:Option Addr),Inv X ae σ H' s'->(∀b o,H b=some o->H' b=some o)->H' e=none->s.heap.objs.size<=e->Fly s'.heap e (.ref C) dx none->((ns=[]/\dx=none)∨∃d od,dx=some d/\H' d=some (.frz od (.xd (ns.zip vs)))/\ns.length=vs.length)->Q (.ref e) s') :
  wpAny (model X.prog X.w) X.A (call (.ref C) us) Q X.xe s:=by
 obtain⟨hh,g,d0,tk,os⟩:=s;refine xcall I.kIn T.mkx hz λh' e hm hsz=>?_;obtain⟨tt,he,_,_⟩:=hm.there;have hn:H e=none:=I.hok.fresh hsz;have I1:Inv X ae σ (upd H e (XO e (.ref C) none)) ⟨h',g,d0,tk,os⟩:=I.laid (t':=tk) hm.keeps hsz (XO.ok ⟨_,_,he,zY,rfl⟩);have hsp:=hi e (upd H e (XO e (.ref C) none)) (λv H2=>v=.non/\∃dx,(∀b,b≠e->∀o,upd H e (XO e (.ref C) none) b=some o->H2 b=some o)/\H2 e=some (XO e (.ref C) dx)/\((ns=[]/\dx=none)∨∃d,dx=some d/\d≠e/\H2 d=some (XD d (ns.zip vs))/\upd H e (XO e (.ref C) none) d=none/\ns.length=vs.length)) upd_same λH2 dx a b c=>⟨rfl,dx,a,b,c⟩;have r2:Vals (V.ref e::vs) (Value.ref e::us):=.cons rfl r;have hl:(Value.ref e::us).length=ps.length:=by rw[<- r2.length];exact F.len _ _ _ _ hsp
 have bt:=T.b _ (Value.ref e::us) I1.kIn (by rw[aV];exact hl);rw[aV]at bt;refine wpAny_call (codeAny_mono (F.run _ X.stack _ _ ⟨Value.ref e::us,[]⟩ (Value.ref e::us) _ _ E0 (hr.make C us []) (I1.env0.make C us []) bt r2 hsp) λres s' hq'=>?_)
 cases res with
 |error x=>exact hq'.elim
 | ok fl =>
  cases fl with
  | ret u =>
   obtain⟨v,H2,I2,rv,ev,dx,kp,e2,alt⟩:=I1.after hq';subst ev;refine⟨rv,?_⟩;have fl:=I2.xo e2;have I3:=I2.forget e2
   have up:∀b o,H b=some o->del H2 e b=some o:=λb o q=>by
    have hb:b≠e:=λz=>by subst z;rw[hn]at q;cases q
    rw[del_ne hb];exact kp b hb o (by rw[upd_ne hb];exact q)
   rcases alt with⟨z1,z2⟩|⟨d,z1,z2,z3,z4,z5⟩
   . exact hq s' _ e dx I3 up del_self hsz fl (.inl ⟨z1,z2⟩)
   .
    have hd:del H2 e d=some (XD d (ns.zip vs)):=by rw[del_ne z2];exact z3
    obtain⟨mA,nA,rA,_⟩:=I2.xd z3;obtain⟨od,es,ep,hod,r1⟩:=id nA;have I4:=I3.reword (w:=.frz od (.xd (ns.zip vs))) hd (λq=>q) (λ_ q=>nomatch q) ⟨hod,mA,nA,rA⟩ (λ_ _ _ q=>nomatch q);have dn:H d=none:=by rw[upd_ne z2]at z4;exact z4
    refine hq s' _ e dx I4 (λb o q=>?_) (by rw[upd_ne (bN z2)];exact del_self) hsz fl (.inr ⟨d,od,z1,upd_same,z5⟩);rw[upd_ne (ne_of_none q dn)];exact up b o q
  |next=>exact False.elim hq'
  |brk=>exact False.elim hq'
  |cont=>exact False.elim hq'
theorem pm_raise{c:Str}{C fI:Addr}{ns:List Str}{sp:Sp}{cpos:Pos}(T:XT X.K X.mg c C fI fd ps ns)(F:FnOk X.prog X.w X.K X.mg X.base CX0 k fI fd ps sp)(hi:∀vs:List V,vs.length=n->InitOk X.K sp C ns vs)(hr:Room (k+1) X.A)(hg:Gl X c)(hx:XOK X xp)(ha:PAL X (e::es) bs t)(hn:bs.length=n)
  (hdb:(c == ("__debug__" : Str))=false:=by decide) (he:starEach (e::es) X.env=(false,eval e X.env)::starEach es X.env:=by rfl) (hpl:(backTo cpos (starEach es X.env)).any (·.1)=false:=by rfl) :
  PM X (.Raise (some (.Call (.Name c p) (e::es) [] cpos)) none pos) (wRaise c ns xp t):=by
 intro ae s σ H Pr Z ag I E0 h;obtain⟨LL,cd,S⟩:=excStd_is T.s;rw[arm_exec_Raise];refine ah (cj ?_);refine xraise S hr.hd (ah (bu (bh (ld_glob I hg T.m ?_ hdb)) (λv s3 h3=>ah (cj (ar h3))) λ_ _ z=>z));refine bR (h₀:=X.base) I.ok.mod.kin T.kp (thn (ha cpos ae s σ H Pr Z _ I E0 h) λus s1 ⟨vs,H1,ls,Z1,I1,r,hl,hbl,E1,hv,q⟩=>⟨I1.kIn,?_⟩) he hpl;obtain⟨ds,rfl,q0,q1,q⟩:=toDs_is q;have af:vs.length=ds.length:=by simpa using hl
 have rs:=reps_of af E1;refine run_xmake T F (hi vs (hbl.trans hn)) hr (by show us.length<=sizeLine;rw[<- r.length,af];exact aG q1 ze) I1 r λs' H' e dx I2 up na hsz fl alt=>⟨e,dx,rfl,I2.kIn,fl,?_⟩;refine hx ae σ H' s' e _ dx none ⟨c,ns,xflds ns ds⟩ I2 ⟨fl,na,(λ_ z=>nomatch z),I1.newer hsz,(λ_ z=>nomatch z)⟩ ?_ q;rcases alt with⟨z1,z2⟩|⟨d,od,z1,z2,z3⟩
 . exact⟨C,[],rfl,T.s,T.fn,.inl ⟨z1,rfl,z2⟩,by unfold xflds;rw[if_pos z1];exact .nil⟩
 .
  by_cases zn:ns=[]
  .
   subst zn;have e0:vs=[]:=by cases vs with|nil=>rfl|cons _ _=>simp at z3
   subst e0;exact⟨C,[],rfl,T.s,T.fn,.inr ⟨d,od,z1,z2,z3⟩,by unfold xflds;rw[if_pos rfl];exact .nil⟩
  . exact⟨C,vs,rfl,T.s,T.fn,.inr ⟨d,od,z1,z2,z3⟩,by unfold xflds;rw[if_neg zn];exact rs.pres λb o _ q=>up b o q⟩
end
def okX(ag:L->Prop):Fl->Ev->Prop:=λf _=>match f with
 |.rt r=>ag r
 |.nx=>ag (.d .non)
 |_=>False
theorem fn_okX{P:Program}{w:World}{K:Frag}{mg:Str->Option Value}{base:Heap}{x qual:Str}{st:Stmt}{f:Addr}{fd:FuncData}{N ps:List Str}{k:Nat}{fs:FSX}(F:Fun K x qual st f fd)(S:FnScope N ps (defScope st))(t:(Xc->Prop)->W Fl)
  (hbody:∀(cdv:Value)(A:Around)(outer:List Env)(s:Shared)(H:Hp)(E:XK)(xp:Xc->Prop),Room k (A.deeper (envOfC qual (defScope st) s.heap.objs.size f cdv))->(∀cls dx H' y,XFly K H' cls dx y->xp y->E cls dx H') ->
   PMs (cxOf (CXr P w) P w K mg base N qual (defScope st) f cdv A outer s H E) (defBody st) (t xp))
  (h:∀ds ag xp,ds.length=ps.length->fs ds ag xp->t xp (ds.map .d++List.replicate (N.length-ps.length) .un) (okX ag)):FnOk P w K mg base (CXr P w) (k+1) f fd ps (spX K ps.length fs):=by
 obtain⟨oc,od,kV,doc,pm,an,cdv,ct,osl,rfl,lk,hcd⟩:=F.ex;refine fn_of lk hcd S (λvs H Q E q=>q.1) λA outer s H vs Q E hr q=>?_;obtain⟨hl,ds,ag,xp,rs,hf,q1,q2⟩:=q;have E0:REnv K H H (vs.map some) (ds.map .d):=⟨λ_ _ e=>e,by rw[owns_ds];exact List.nodup_nil,λa ha=>(by rw[owns_ds]at ha;simp at ha),REnv.ds rs⟩;refine⟨_,(hbody cdv A outer s H E xp hr q2).pss,H,ds.map .d++List.replicate (N.length-ps.length) .un,okX ag,?_,h ds ag xp (by rw[<- rs.length];exact hl) hf,λσ' H' Z' E' p=>?_,λ_ _ _ _ p=>p.elim,λ_ _ _ _ p=>p.elim,λv τ H' r Z' E' p=>?_⟩
 . unfold start;rw[hl];exact E0.uns _
 . exact q1 .non H' (.d .non) ((⟨E'.sub,List.nodup_nil,λa ha=>(by simp[owns]at ha),.nil⟩:REnv K H H' [] []).cons_d .non) p
 . exact q1 v H' r (REnv.left (τ:=[some v]) (lam:=[r]) E' rfl) p
section
variable{X:Cx}{ae:List (Addr×Obj)}{σ:St}{H:Hp}{s:Shared}
theorem Inv.lost{n:Str}{i:Nat}{h':Heap}{t':Nat}{m m':Str->Option Value}(I:Inv X ae σ H s)(hN:X.N.Nodup)(hi:X.N[i]?=some n)(hn:s.heap.Ns X.env.locals m)(hn':h'.Ns X.env.locals m')(hm:∀y,y≠n->m' y=m y)(hs:Heap.SameBut X.env.locals s.heap h') :
  Inv X ae (σ.set i none) H {s with heap:=h',toks:=t' }:=by
 have nl:∀b o,X.s₀.heap.get? b=some o->b≠X.env.locals:=λb o e=>aR (aj (au e) I.ok.above);refine⟨I.ok,I.os,I.bare,⟨λb o e n hb hx=>(hs.2 b (nl b o e)).trans (I.base.keep b o e n hb hx),λb o e n hb hx=>?_,I.base.free,λb o e hx=>?_,I.base.tups,I.base.frzs,I.base.tbls⟩,⟨m',hn',λj y v e1 e2 e3=>?_⟩,λy c e=>?_,I.free,I.freeC,λp hp=>?_,λb o e=>?_,by simpa using I.len⟩
 . obtain⟨sl,e1⟩:=I.base.slot b o e n hb hx;exact⟨sl,(hs.2 b (nl b o e)).trans e1⟩
 . obtain⟨o',e1⟩:=I.base.there b o e hx;exact⟨o',(hs.2 b (nl b o e)).trans e1⟩
 .
  have hj:j≠i:=λz=>by
   subst z;have hlt:j<σ.length:=by rw[I.len];exact(ak.mp hi).1
   rw[a7 hlt]at e2;cases e2
  rw[bo (bN hj)]at e2;obtain⟨m0,hn0,hl⟩:=I.loc;obtain⟨u,r,q⟩:=hl j y v e1 e2 e3;have hy:y≠n:=λz=>hj (nodup_ix hN e1 (z ▸ hi));refine⟨u,r,?_⟩;rcases q with⟨k,e⟩|⟨k,c,e,z⟩
  . refine .inl ⟨k,?_⟩;rw[hm y hy];obtain⟨o1,es1,ep1,a1,a2,a3,a4⟩:=hn;obtain⟨o2,es2,ep2,b1,b2,b3,b4⟩:=hn0;rw[a1]at b1;cases b1;rw[a2]at b2;cases b2;rw[<- a4 y,b4 y];exact e
  . exact .inr ⟨k,c,e,z.sameBut hs (I.cne y c e)⟩
 . obtain⟨v,z⟩:=I.cell y c e;exact⟨v,z.sameBut hs (I.cne y c e)⟩
 . obtain⟨a1,a2,a3,a4⟩:=I.pin p hp;exact⟨(hs.2 _ a3).trans a1,a2,a3,a4⟩
 .
  refine(I.hok b o e).stay (λc v hc z=>(hs.2 c λq=>?_).trans z) (λ_ z=>z) (λ_ _ z=>z) λ_ _ _ _ z=>z
  have:∃o',H c=some o':=by
   rcases hc with rfl|hc
   . exact⟨o,e⟩
   . exact⟨_,hc⟩
  obtain⟨o',ho'⟩:=this;rw[q,I.free]at ho';cases ho'
theorem name_goes{M:Model}{A:Around}{E:Value->Shared->Prop}{n:Str}{i:Nat}{pos:Pos}{Q:Unit->Shared->Prop}(I:Inv X ae σ H s)(hN:X.N.Nodup)(hi:X.N[i]?=some n)(hl:X.env.kindOf n=some .local)(hx:Loc X.env.scope n)(hf:X.fn n=true∨X.env.scope.names.lookup n=some .local)
  (hq:∀s',Inv X ae (σ.set i none) H s'->Q () s'):wpAny M A (do bindName X.env n .none;unbindBehindTheSuite X.env n pos) Q E s:=by
 have hcls:(X.env.scope.kind == .class ||(X.env.scope.kind == .module && X.env.locals != X.env.globals))=false:=by rw[I.ok.kind];rfl
 refine ah (wpAny_bindName (store_ok (v:=.non) I hN hi hx rfl (λs1 I1=>?_) hf));obtain⟨m,hn,_⟩:=id I1.loc;unfold unbindBehindTheSuite;refine wpAny_onRaise ?_;unfold unbindName;refine ah (wpAny_point (ah ?_));unfold deleteName;simp only[hl,hcls];rw[if_neg (by decide)];refine ah (wpAny_nsDel_keeps hn λh2 v hn2 hs2=>?_)
 have hsome:(m n).isSome=true:=by
  obtain⟨m1,hn1,hl1⟩:=I1.loc;have hlt:i<σ.length:=by rw[I.len];exact(ak.mp hi).1
  obtain⟨u,r,q⟩:=hl1 i n .non hi (by simp[hlt]) (hx.elim .inl λz=>.inr (.inl z));obtain⟨o1,es1,ep1,a1,a2,a3,a4⟩:=hn;obtain⟨o2,es2,ep2,b1,b2,b3,b4⟩:=hn1;rw[a1]at b1;cases b1;rw[a2]at b2;cases b2;rcases q with⟨k,e⟩|⟨k,_⟩
  . rw[<- a4 n,b4 n,e];rfl
  . rw[hl]at k;rcases k with k|k<;>cases k
 rw[hsome];simp only[if_true,Bool.not_true,Bool.false_eq_true,if_false];refine ar (wpAny_point ?_);have z:=I1.lost (t':=s1.toks) hN hi hn hn2 (λy hy=>by rw[if_neg hy]) hs2;rw[bM]at z;exact hq _ z
end
noncomputable def isA(c y:Str):Bool:=c == y ||c == ("LoadError" : Str)
structure XH (K:Frag) (mg:Str->Option Value) (c:Str) (C:Addr):Prop where
 m:mg c=some (.ref C)
 ns:nsIn K mainGlobals c=some (some (.ref C))
 cls:∃cd,clsIn K C=some cd/\cd.name=c
 ty:typeIn K (.ref C)=some (.type "type")
 base:mroIn K C (.type "BaseException")=some true
section
variable{K:Frag}{mg:Str->Option Value}{c y:Str}{C D:Addr}
theorem XH.sub(T:XH K mg c C)(hs:excStd K y D=true):mroIn K D (.ref C)=some (isA c y):=by
 obtain⟨L,cd,S⟩:=excStd_is hs;obtain⟨cdC,hC,hn⟩:=T.cls;obtain⟨kL,hL,hnL⟩:=S.lname;rw[S.mroIn,xmro_ref]
 congr 1
 unfold isA
 have e1:(C == D)=(c == y):=by
  by_cases h:c=y
  . subst h;have z:=T.ns.symm.trans S.own;cases z;simp
  . rw[aT.mpr h,aT];intro z;subst z;rw[S.cls]at hC;cases hC;exact h (hn.symm.trans S.name)
 have e2:(C == L)=(c == ("LoadError" : Str)):=by
  by_cases h:c=("LoadError" : Str)
  . subst h;have z:=T.ns.symm.trans S.load;cases z;simp
  . rw[aT.mpr h,aT];intro z;subst z;rw[hL]at hC;cases hC;exact h (hn.symm.trans hnL)
 rw[e1,e2]
theorem xmatch{M:Model}{A:Around}{E:Value->Shared->Prop}{s:Shared}{a:Addr}{ox:Obj}{Q:Bool->Shared->Prop}(T:XH K mg c C)(hs:excStd K y D=true)(hA:isA c y=true)(X:K.In s.heap)(he:s.heap.get? a=some ox)(hc:ox.cls=.ref D)(hq:Q true s) :
  wpAny M A (excMatches (.ref a) (.ref C)) Q E s:=by
 obtain⟨hp,g,d,tk,os⟩:=s;have he:hp.get? a=some ox:=he;obtain⟨cd,hcd,_⟩:=T.cls;obtain⟨oc,odc,slc,hK⟩:=clsIn_obj hcd;have hC:hp.get? C=some ⟨oc,odc,.cls cd,slc⟩:=X _ _ hK;have L1:Looks M hp (typeOf (.ref C)) (.type "type"):=looks_typeIn X T.ty;have L2:Looks M hp (isSubtype (.ref C) (.type "BaseException")) true:=looks_mroIn X T.base;have L3:Looks M hp (isSubtype (.ref D) (.ref C)) true:=looks_mroIn X (by rw[T.sub hs,hA]);have f:=tc_notTuple;have L4:Looks M hp (isInstance (.ref C) (.type "tuple")) false:=L1.andThen (Looks.of_pure f);have L5:Looks M hp (typeOf (.ref a)) (.ref D):=hc ▸ (Looks.ld he).andThen .now;unfold excMatches;refine ah (L4.at ?_);dsimp only;rw[if_neg (by decide)]
 repeat (first|with_reducible refine L2.at ?_|with_reducible refine L3.at ?_|with_reducible refine L5.at ?_|with_reducible refine aZ hC ?_|wp_step)
 exact hq
end
noncomputable abbrev Cx.tr(X:Cx)(ae:List (Addr×Obj))(E:Value->Shared->Prop):Cx:={X with pn:=X.pn++ae,xe:=E}
noncomputable abbrev Cx.han(X:Cx)(a:Addr):Cx:={X with A:=X.A.mark (some (.ref a)),calm:=false,xe:=λ_ _=>False}
section
variable{X:Cx}{ae pins0:List (Addr×Obj)}{σ:St}{H:Hp}{s:Shared}{E:Value->Shared->Prop}{a:Addr}
theorem Cx.Ok.tr(ok:X.Ok):(X.tr ae E).Ok:=⟨ok.mod,ok.kind,ok.glob,ok.blt,ok.above,ok.inj,ok.has,ok.cab,ok.hd,ok.frames,ok.stk,ok.exf,ok.bs,ok.bsz,ok.noex,ok.exfs,ok.funs,ok.frf,ok.tbs⟩
theorem Cx.Ok.untr(ok:(X.tr ae E).Ok):X.Ok:=⟨ok.mod,ok.kind,ok.glob,ok.blt,ok.above,ok.inj,ok.has,ok.cab,ok.hd,ok.frames,ok.stk,ok.exf,ok.bs,ok.bsz,ok.noex,ok.exfs,ok.funs,ok.frf,ok.tbs⟩
theorem Inv.tr(I:Inv X ae σ H s):Inv (X.tr ae E) [] σ H s:=⟨I.ok.tr,I.os,I.bare,I.base,I.loc,I.cell,I.free,I.freeC,λp hp=>I.pin p (by simpa using hp),I.hok,I.len⟩
theorem Inv.untr(I:Inv (X.tr pins0 E) ae σ H s):Inv X pins0 σ H s:=⟨I.ok.untr,I.os,I.bare,I.base,I.loc,I.cell,I.free,I.freeC,λp hp=>I.pin p (av _ hp),I.hok,I.len⟩
theorem Inv.han(I:Inv X ae σ H s)(a:Addr):Inv (X.han a) ae σ H s :=
 ⟨⟨I.ok.mod,I.ok.kind,I.ok.glob,I.ok.blt,I.ok.above,I.ok.inj,I.ok.has,I.ok.cab,(λz=>nomatch z),I.ok.frames,I.ok.stk,I.ok.exf,I.ok.bs,I.ok.bsz,I.ok.noex,I.ok.exfs,I.ok.funs,I.ok.frf,I.ok.tbs⟩,I.os,I.bare,I.base,I.loc,I.cell,I.free,I.freeC,I.pin,I.hok,I.len⟩
theorem Inv.unhan(I:Inv (X.han a) ae σ H s)(ok:X.Ok):Inv X ae σ H s:=⟨ok,I.os,I.bare,I.base,I.loc,I.cell,I.free,I.freeC,I.pin,I.hok,I.len⟩
theorem SM.untr{Pr:Hp}{ag:Fl->Ev->Prop}{f:Flow}{s':Shared}(h:SM (X.tr pins0 E) ae Pr ag f s'):SM X pins0 Pr ag f s':=by
 cases f with
 |next=>obtain⟨σ',H',Z',I,r⟩:=h;exact⟨σ',H',Z',I.untr,r⟩
 |brk=>obtain⟨σ',H',Z',I,r⟩:=h;exact⟨σ',H',Z',I.untr,r⟩
 |cont=>obtain⟨σ',H',Z',I,r⟩:=h;exact⟨σ',H',Z',I.untr,r⟩
 |ret u=>obtain⟨v,σ',H',r',Z',τ,I,r⟩:=h;exact⟨v,σ',H',r',Z',τ,I.untr,r⟩
end
def xeT(X:Cx)(ae:List (Addr×Obj))(Pr:Hp)(xp:Xc->Ev->Prop):Value->Shared->Prop:=λe s'=>∃σ' H' Z' a cls dx T x,e=.ref a/\Inv X ae σ' H' s'/\REnv X.K Pr H' σ' Z'/\Raised X ae H' s' a cls dx T/\XFly X.K H' cls dx x/\xp x Z'
noncomputable abbrev Cx.tb(X:Cx)(ae:List (Addr×Obj))(Pr:Hp)(xp:Xc->Ev->Prop):Cx:=X.tr ae (xeT X ae Pr xp)
def Le(P Q:Hp):Prop:=∀b o,P b=some o->Q b=some o
theorem REnv.le{K:Frag}{P Q H:Hp}{σ:St}{Z:Ev}(E:REnv K Q H σ Z)(h:Le P Q):REnv K P H σ Z:=⟨λb o e=>E.sub b o (h b o e),E.nd,λa ha=>(by
  have z:=E.off a ha
  cases q:P a with
  |none=>rfl
  |some o=>rw[h a o q]at z;cases z),E.sl⟩
def PLt(X:Cx)(pins0:List (Addr×Obj))(Pr0:Hp)(xp:Xc->Ev->Prop)(e:Expr)(t:W L):Prop :=
 ∀(ae:List (Addr×Obj))(s:Shared)(σ:St)(H Pr:Hp)(Z:Ev)(ag:L->Ev->Prop),Le Pr0 Pr->Inv (X.tb pins0 Pr0 xp) ae σ H s->REnv X.K Pr H σ Z->t Z ag->wpAny (model X.prog X.w) X.A (eval e X.env) (EL (X.tb pins0 Pr0 xp) ae σ Pr ag) (xeT X pins0 Pr0 xp) s
def PMt(X:Cx)(pins0:List (Addr×Obj))(Pr0:Hp)(xp:Xc->Ev->Prop)(st:Stmt)(t:W Fl):Prop :=
 ∀(ae:List (Addr×Obj))(s:Shared)(σ:St)(H Pr:Hp)(Z:Ev)(ag:Fl->Ev->Prop),Le Pr0 Pr->Inv (X.tb pins0 Pr0 xp) ae σ H s->REnv X.K Pr H σ Z->t Z ag->wpAny (model X.prog X.w) X.A (exec st X.env) (SM (X.tb pins0 Pr0 xp) ae Pr ag) (xeT X pins0 Pr0 xp) s
def PMts(X:Cx)(pins0:List (Addr×Obj))(Pr0:Hp)(xp:Xc->Ev->Prop)(sts:List Stmt)(t:W Fl):Prop :=
 ∀(ae:List (Addr×Obj))(s:Shared)(σ:St)(H Pr:Hp)(Z:Ev)(ag:Fl->Ev->Prop),Le Pr0 Pr->Inv (X.tb pins0 Pr0 xp) ae σ H s->REnv X.K Pr H σ Z->t Z ag->wpAny (model X.prog X.w) X.A (execs sts X.env) (SM (X.tb pins0 Pr0 xp) ae Pr ag) (xeT X pins0 Pr0 xp) s
def wCallT(fs:FSX)(xp:Xc->Ev->Prop)(t:W (List L)):W L:=λZ ag=>t Z λls Z1=>toDs ls λds=>fs ds (λr=>ag r Z1) (λy=>xp y Z1)
section
variable{X:Cx}{pins0:List (Addr×Obj)}{Pr0:Hp}{xp:Xc->Ev->Prop}{k n:Nat}{f:Addr}{fd:FuncData}{ps:List Str}{fs:FSX}{x:Str}{p pos:Pos}{e:Expr}{es:List Expr}{bs:List (Option Nat)}{t:W (List L)}{te:W L}{tm:W Fl}{st:Stmt}
theorem plt_call(F:FnOk X.prog X.w X.K X.mg X.base (CXr X.prog X.w) k f fd ps (spX X.K n fs))(hr:Room k X.A)(hg:Gl X x)(hm:X.mg x=some (.ref f))(hk:PySem.W.keepIn X.K (.ref f)=true)(hb:Binds X.K fd ps [])
  (ha:PAL (X.tb pins0 Pr0 xp) (e::es) bs t) (hn:bs.length=n) (hdb:(x == ("__debug__" : Str))=false:=by decide) (he:starEach (e::es) X.env=(false,eval e X.env)::starEach es X.env:=by rfl) (hpl:(backTo pos (starEach es X.env)).any (·.1)=false:=by rfl) :
  PLt X pins0 Pr0 xp (.Call (.Name x p) (e::es) [] pos) (wCallT fs xp t):=by
 intro ae s σ H Pr Z ag le I E0 h;refine bh (ld_glob (X:=X.tb pins0 Pr0 xp) I hg hm ?_ hdb);refine bR (h₀:=X.base) I.ok.mod.kin hk (thn (ha pos ae s σ H Pr Z _ I E0 h) λus s1 ⟨vs,H1,ls,Z1,I1,r,hl,hbl,E1,hv,q⟩=>⟨I1.kIn,?_⟩) he hpl;obtain⟨ds,rfl,q1⟩:=toDs_is q;have af:vs.length=ds.length:=by simpa using hl
 refine run_x (X:=X.tb pins0 Pr0 xp) (ag:=ag) F hr hb (hbl.trans hn) I1 (E1.drop (by simp[af])) r (reps_of af E1) q1 λs' H' a cls dx T y I2 E2 R z1 z2=>?_;exact⟨σ,H',Z1,a,cls,dx,T,y,rfl,I2.untr,E2.le le,⟨R.fly,R.na,R.nt,⟨R.wa.s0,R.wa.loc,R.wa.cel,λp hp=>R.wa.pin p (av _ hp)⟩,λt et=>⟨(R.wt t et).s0,(R.wt t et).loc,(R.wt t et).cel,λp hp=>(R.wt t et).pin p (av _ hp)⟩⟩,z1,z2⟩
theorem pmt_expr(he:PLt X pins0 Pr0 xp e te)(hs:swapsWith e none pos.line X.env=pure false:=by rfl):PMt X pins0 Pr0 xp (.Expr e pos) (wDrop te):=by intro ae s σ H Pr Z ag le I E h;exact wpAny_Expr_any (thn (he ae s σ H Pr Z _ le I E h) λv s1 ⟨x,H1,r,Z1,I1,r1,E1,q1⟩=>⟨σ,H1,Z1,I1,E1.tail,q1⟩) I.quiet hs
theorem pmts_one(h1:PMt X pins0 Pr0 xp st tm):PMts X pins0 Pr0 xp [st] tm:=by
 intro ae s σ H Pr Z ag le I E h;refine wpAny_execs_cons (thn (h1 ae s σ H Pr Z ag le I E h) λf s1 q=>?_)
 cases f with
 |next=>exact bT q
 |brk=>exact q
 |cont=>exact q
 |ret u=>exact q
end
def wTryAs(tb:(Xc->Ev->Prop)->W Fl)(c:Str)(i:Nat)(ts:W Fl):W Fl:=λZ ag=>tb (λx Z1=>isA c x.c=true/\ts (Z1.set i (.d (.exc x.c x.ns x.ds))) λf Z2=>ag f (Z2.set i .un)) Z ag
section
variable{X:Cx}{ae:List (Addr×Obj)}{σ:St}{H:Hp}{s:Shared}
theorem Inv.landed{Pr:Hp}{Z:Ev}{a:Addr}{cls:Value}{dx T:Option Addr}{h1:Heap}(I:Inv X ae σ H s)(R:Raised X ae H s a cls dx T)(hstk:X.stack=X.env::X.outer)
  (k1:∀b o,b≠a->some b≠T->b∉frs (X.env::X.outer)->s.heap.get? b=some o->h1.get? b=some o) (k2:∀b o,b≠a->some b≠T->s.heap.get? b=some o->∃sl,h1.get? b=some {o with slots:=sl}):Inv X ae σ H {s with heap:=h1}:=by
 have nch:∀b,b∉a::T.toList->b≠a/\some b≠T:=λb hb=>⟨λz=>hb (by simp[z]),λz=>hb (by simp[<- z])⟩;have tra:∀b o,H b=some o->b≠a/\some b≠T/\b∉frs (X.env::X.outer):=λb o e=>by refine⟨λz=>(by subst z;rw[R.na]at e;cases e),λz=>(by rw[R.nt b z.symm]at e;cases e),λz=>?_⟩;have:=I.stkFree b (by rw[hstk];exact z);rw[e]at this;cases this
 refine I.call (g':=s.gens) (t':=s.toks) (d':=s.drawn) (ch:=a::T.toList) ⟨λb o e n hf hx=>?_,λb o e n hf hx=>?_,λb o e n hx=>n,λb o e hx=>?_,λ_ _ e=>e,λ_ _ _ e=>e,λ_ _ e=>e⟩ (λb o e=>?_) I.bare λb hb=>?_
 . exact k1 b o (nch b hx).1 (nch b hx).2 (by rw[<- hstk];exact hf) e
 . exact k2 b o (nch b hx).1 (nch b hx).2 e
 . obtain⟨sl,q⟩:=k2 b o (nch b hx).1 (nch b hx).2 e;exact⟨_,q⟩
 .
  refine(I.hok b o e).stay (λc v hc z=>?_) (λ_ z=>z) (λ_ _ z=>z) λ_ _ _ _ z=>z
  have ht:∃o',H c=some o':=by
   rcases hc with rfl|hc
   . exact⟨o,e⟩
   . exact⟨_,hc⟩
  obtain⟨o',ho'⟩:=ht;obtain⟨t1,t2,t3⟩:=tra c o' ho';exact k1 c v t1 t2 t3 z
 .
  have w:New X ae b:=by
   rcases aD.mp hb with rfl|hb
   . exact R.wa
   . exact R.wt b (by cases T with|none=>simp at hb|some t=>simp at hb;rw[hb])
  exact⟨.inr w.s0,w.loc,w.cel,w.pin⟩
end
section
variable{X:Cx}{body suite:List Stmt}{b0:Stmt}{c:Str}{C:Addr}{p hp pos:Pos}{tb:(Xc->Ev->Prop)->W Fl}{ts:W Fl}
theorem pm_tryAs{n:Str}{i:Nat}(hstk:X.stack=X.env::X.outer)(hf:X.env.frame=some X.env.locals)(TC:XH X.K X.mg c C)(hg:Gl X c)(hN:X.N.Nodup)(hi:X.N[i]?=some n)(hl:X.env.kindOf n=some .local)(hx:Loc X.env.scope n)(hb:∀ ae Pr xp,PMts X ae Pr xp body (tb xp))(hs:∀ a,PMs (X.han a) (b0::suite) ts) (hdb:(c == ("__debug__" : Str))=false:=by decide)
  (hfn:X.fn n=true∨X.env.scope.names.lookup n=some .local:=by first|exact .inl rfl|exact .inr rfl|assumption) :
  PM X (.Try body [.ExceptHandler (some (.Name c p)) (some n) (b0::suite) hp] [] [] pos) (wTryAs tb c i ts):=by
 intro ae s σ H Pr Z ag I E h;refine wpAny_Try_except (bu (hb ae Pr (λx Z1=>isA c x.c=true/\ts (Z1.set i (.d (.exc x.c x.ns x.ds))) λf Z2=>ag f (Z2.set i .un)) [] s σ H Pr Z ag (λ_ _ z=>z) I.tr E h) (λf s1 q=>?_) λe s1 q=>?_)
 .
  have q':=SM.untr q
  cases f with
  |next=>exact bT q'
  |brk=>exact q'
  |cont=>exact q'
  |ret u=>exact q'
 .
  obtain⟨σ',H',Z',a,cls,dx,T,x,rfl,I1,E1,R,F,hA,hts⟩:=q;refine xnote (hstk ▸ I1.ok.frames) (hstk ▸ I1.stack) hf R.fly λh1 T1 fl hT1 k1 k2=>?_;have I2:=I1.landed (Pr:=Pr) (Z:=Z') R hstk k1 k2;have w1:=I1.newer hT1;obtain⟨D0,vs,rfl,hstd,hfq,hxf,rs⟩:=F;refine wpAny_handleBy_cons (codeAny_handlers_test (ld_glob (I2.han a) hg TC.m ?_ hdb)) (by intro q;cases q);obtain⟨vv,sl,he,_⟩:=id fl;refine xmatch TC hstd hA I2.kIn he rfl ?_;refine codeAny_handlers_suite_as (xland fl λh2 fl2 k3=>?_);have I3:=I2.turned (it:=T1) (t':=s1.toks) (λb o hb e=>k3 b o hb e) (I1.hok.fresh hT1) w1.loc (.inr w1.s0) w1.cel w1.pin;obtain⟨vv2,sl2,he2,_⟩:=id fl2;have I4:=I3.track (o:=.frz ⟨.ref D0,dx,.fields vv2,sl2⟩ (.ext λh=>h.get? a=some ⟨.ref D0,dx,.fields vv2,sl2⟩)) R.na R.wa.s0 R.wa.loc R.wa.cel R.wa.pin ⟨he2,he2,⟨_,he2⟩,λh1 h2 p k=>k _ p⟩;have pr:Pres H' (upd H' a (.frz ⟨.ref D0,dx,.fields vv2,sl2⟩ (.ext λh=>h.get? a=some ⟨.ref D0,dx,.fields vv2,sl2⟩))):=λb o _ e=>by rw[upd_ne (ne_of_none e R.na)];exact e
  have rep:Rep X.K (upd H' a (.frz ⟨.ref D0,dx,.fields vv2,sl2⟩ (.ext λh=>h.get? a=some ⟨.ref D0,dx,.fields vv2,sl2⟩))) (.ref a) (.exc x.c x.ns x.ds):=.exc upd_same True.intro rfl rfl hstd hfq (hxf.pres pr) (rs.pres pr);have E4:=(E1.new (o:=.frz ⟨.ref D0,dx,.fields vv2,sl2⟩ (.ext λh=>h.get? a=some ⟨.ref D0,dx,.fields vv2,sl2⟩)) R.na).cons_d rep;have hil:i<σ'.length:=by rw[I1.len];exact(ak.mp hi).1
  refine store_ok (X:=X.han a) (I4.han a) hN hi hx (v:=.ref a) rfl (λs5 I5=>?_) hfn;refine bu (hs a ae s5 _ _ Pr _ _ I5 (E4.store hil) hts) (λf s6 q=>?_) λ_ _ z=>z.elim
  cases f with
  | next =>
   obtain⟨σ2,H2,Z2,J,E2,q⟩:=q;exact name_goes (J.unhan I.ok) hN hi hl hx hfn λs7 J7=>⟨_,H2,_,J7,E2.forget i none,q⟩
  | brk =>
   obtain⟨σ2,H2,Z2,J,E2,q⟩:=q;exact name_goes (J.unhan I.ok) hN hi hl hx hfn λs7 J7=>⟨_,H2,_,J7,E2.forget i none,q⟩
  | cont =>
   obtain⟨σ2,H2,Z2,J,E2,q⟩:=q;exact name_goes (J.unhan I.ok) hN hi hl hx hfn λs7 J7=>⟨_,H2,_,J7,E2.forget i none,q⟩
  | ret u =>
   obtain⟨v,σ2,H2,r,Z2,τ,J,rv,E2,q⟩:=q;exact name_goes (J.unhan I.ok) hN hi hl hx hfn λs7 J7=>⟨v,_,H2,r,_,_,J7,rv,E2.forget (i+1) none,q⟩
end
noncomputable def fldD(f:Str):D->Option D
 |.exc _ ns ds=>(ns.zip ds).lookup f
 |_=>none
def opFld(f:Str):D->(L->Prop)->Prop:=λd k=>match fldD f d with
 |some v=>k (.d v)
 |none=>False
theorem lookup_mem{α:Type}{f:Str}:∀{ns:List Str}{ds:List α}{v:α},(ns.zip ds).lookup f=some v->f∈ns
 | n::ns,d::ds,v,h=>by
  simp only[bC,List.lookup]at h;split at h
  . rename_i q;rw[b8.mp q];exact ao
  . exact ai _ (lookup_mem h)
 |[],_,_,h=>by simp at h
 |_::_,[],_,h=>by simp at h
theorem lookup_reps{K:Frag}{H:Hp}{f:Str}:∀{ns:List Str}{vs:List V}{ds:List D}{d:D},ns.length=vs.length->Reps K H vs ds->(ns.zip ds).lookup f=some d->∃v,(ns.zip vs).lookup f=some v/\Rep K H v d
 | n::ns,v::vs,_,d,hl,.cons r t,h=>by
  simp only[bC,List.lookup]at h ⊢;split at h
  . cases h;exact⟨v,rfl,r⟩
  . exact lookup_reps (by simpa using hl) t h
 |[],_,_,_,_,_,h=>by simp at h
 |_::_,[],_,_,hl,_,_=>by simp at hl
theorem handed_rel{v:V}{u:Value}(r:RelV v u):handedIn u=true:=by
 cases v with
 |non=>cases r;rfl
 |bl b=>cases r;rfl
 |int i=>obtain⟨t,rfl⟩:=r;rfl
 |str i=>obtain⟨t,rfl⟩:=r;rfl
 |byt i=>obtain⟨t,rfl⟩:=r;rfl
 |flt i=>obtain⟨t,rfl⟩:=r;rfl
 |ref a=>cases r;rfl
 |ty n=>cases r;rfl
section
variable{X:Cx}{e a:Expr}{te:W L}{f:Str}{pos:Pos}
theorem pl_fld(he:PL X e te)(hb:attributeBase e f X.env (eval e X.env)=eval e X.env:=by rfl):PL X (.Attribute e f pos) (wUn (opFld f) te):=by
 intro ae s σ H Pr Z ag I E h;refine attr_of hb (thn (he ae s σ H Pr Z _ I E h) λu s1 q=>?_);obtain⟨x,H1,dx,Z1,I1,r1,E1,q1⟩:=EL.frz (ag:=λdx Z1=>opFld f dx λr=>ag r Z1) q;obtain⟨_,e1,p1⟩:=E1.head_d;cases e1;unfold opFld at q1;split at q1
 .
  rename_i v hv
  cases p1 with
  | @exc a o w cc C ns vs ds h1 hvv hc hn hs hq hf rs =>
   cases r1;have hv:(ns.zip ds).lookup f=some v:=hv;obtain⟨L0,cd,S⟩:=excStd_is hs;rcases id hf with⟨z1,z2,z3⟩|⟨d,od,z1,z2,z3⟩
   . subst z1;simp at hv
   .
    obtain⟨v',hl,rv⟩:=lookup_reps z3 rs hv;obtain⟨hod,mA,nA,rA⟩:=(show s1.heap.get? d=some od/\∃mA,s1.heap.Ns1 d mA/\∀g,RelO ((ns.zip vs).lookup g) (mA g)from I1.hok d _ z2);have ro:=rA f;rw[hl]at ro
    cases hm:mA f with
    |none=>rw[hm]at ro;exact ro.elim
    | some u0 =>
     rw[hm]at ro;obtain⟨od',hod',hlk⟩:=lookIn_ns nA;rw[hod]at hod';cases hod';obtain⟨oi,Ia,hoi⟩:=exc_inst I1 h1 hc hn hf;obtain⟨q0,e0,e0'⟩:=hoi d z1;rw[hod]at e0';cases e0';subst e0;have hfo:=S.fown (name:=f) (o:=od) (v:=u0) (hq f (lookup_mem hv)) ((hlk f).trans (by rw[hm]));have hh:handedIn u0=true:=handed_rel ro;exact xattr_own S I1.kIn Ia hfo hh ⟨v',H1,.d v,Z1,I1.tok _,ro,E1.tail.cons_d rv,q1⟩
  |_=>cases hv
 . exact q1.elim
end
theorem xok_no{X:Cx}:XOK X (λ_=>False):=λ_ _ _ _ _ _ _ _ _ _ _ _ h=>h.elim
section
variable{X:Cx}{k k' n:Nat}{f:Addr}{fd:FuncData}{ps:List Str}{fs:FSX}{g:Str}{st:Stmt}{e:Expr}{es:List Expr}{bs:List (Option Nat)}{t:W (List L)}{p pos cpos:Pos}{xp:Xc->Prop}{c:Str}{C fI:Addr}{ns:List Str}
theorem pl_cxX(F:FnOk X.prog X.w X.K X.mg X.base (CXr X.prog X.w) k f fd ps (spX X.K n fs))(T:FX X.K X.mg g st f fd ps)(hr:Room k' X.A)(hx:XOK X xp)(ha:PAL X (e::es) bs t)(hk:k<=k':=by decide)(hg:Gl X g:=by rfl)(hn:bs.length=n:=by rfl) (hdb:(g == ("__debug__" : Str))=false:=by decide) (he:starEach (e::es) X.env=(false,eval e X.env)::starEach es X.env:=by rfl) (hpl:(backTo pos (starEach es X.env)).any (·.1)=false:=by rfl) :
  PL X (.Call (.Name g p) (e::es) [] pos) (wCallX fs xp t):=pl_callX F (hr.mono hk) hg T.m T.f.kp T.b hx ha hn hdb he hpl
theorem plt_cx{pins0:List (Addr×Obj)}{Pr0:Hp}{xt:Xc->Ev->Prop}(F:FnOk X.prog X.w X.K X.mg X.base (CXr X.prog X.w) k f fd ps (spX X.K n fs))(T:FX X.K X.mg g st f fd ps)(hr:Room k' X.A)(ha:PAL (X.tb pins0 Pr0 xt) (e::es) bs t)(hk:k<=k':=by decide)(hg:Gl X g:=by rfl)(hn:bs.length=n:=by rfl) (hdb:(g == ("__debug__" : Str))=false:=by decide) (he:starEach (e::es) X.env=(false,eval e X.env)::starEach es X.env:=by rfl) (hpl:(backTo pos (starEach es X.env)).any (·.1)=false:=by rfl) :
  PLt X pins0 Pr0 xt (.Call (.Name g p) (e::es) [] pos) (wCallT fs xt t):=plt_call F (hr.mono hk) hg T.m T.f.kp T.b ha hn hdb he hpl
theorem pm_raiseF(T:XT X.K X.mg c C fI fd ps ns)(F:FnOk X.prog X.w X.K X.mg X.base CX0 2 fI fd ps (spXI X.K ns))(hr:Room k' X.A)(hx:XOK X xp)(ha:PAL X (e::es) bs t)(hk:3<=k':=by decide)(hg:Gl X c:=by rfl)(hn:bs.length=ns.length:=by rfl)
  (hdb:(c == ("__debug__" : Str))=false:=by decide) (he:starEach (e::es) X.env=(false,eval e X.env)::starEach es X.env:=by rfl) (hpl:(backTo cpos (starEach es X.env)).any (·.1)=false:=by rfl) :
  PM X (.Raise (some (.Call (.Name c p) (e::es) [] cpos)) none pos) (wRaise c ns xp t) :=
 pm_raise T F (λvs hv=>init_xi T.s T.fn hv) (hr.mono hk) hg hx ha hn hdb he hpl
noncomputable abbrev fdQ(g q:Str)(st:Stmt)(md:Value)(c:Nat):FuncData:=PySem.W.fnOf g q (defArgs st) (defBody st) (defScope st) .none .none .none md none (.ref c) .none
theorem XLoad.mk'{K:Frag}{mg:Str->Option Value}{h:Heap}(X:K.In h)(G:h.Ns mainGlobals mg){L fL:Addr}{st:Stmt}{md:Value}{c:Nat} (e1:nsIn K mainGlobals "LoadError"=some (some (.ref L))) (e2:readsIn K L (.type "type")=true) (e3:specialIn K (.ref L) "__getattribute__"=some (some (.builtin "type.__getattribute__")))
  (e4:findCls K (.ref L) (.type "type") "__init__"=some (.val (.ref fL))) (e5:K.lookup fL=some ⟨.type "function",none,.func (fdQ "__init__" "LoadError.__init__" st md c),#[]⟩) (e6:codeIn K (.ref c) "LoadError.__init__"=true) (e7:keepIn K (.ref fL)=true)
  (e8:∀(kV doc pm:Value)(an:Option Addr)(cdv ct:Value)(us:List Value),us.length=2->bindArgs (PySem.W.fnOf "__init__" "LoadError.__init__" (defArgs st) (defBody st) (defScope st) .none kV doc pm an cdv ct) ⟨us,[]⟩=pure ((["self","text"]:List Str).zip us)):XLoad K mg L fL (fdQ "__init__" "LoadError.__init__" st md c) st :=
 ⟨mg_of X G e1,e2,e3,e4,fun_mk e5 e6 e7,(fun_mk e5 e6 e7).binds e8⟩
theorem XT.mk'{K:Frag}{mg:Str->Option Value}{h:Heap}(X:K.In h)(G:h.Ns mainGlobals mg){c:Str}{C fI:Addr}{fd:FuncData}{ps ns:List Str}(e1:nsIn K mainGlobals c=some (some (.ref C)))(e2:excStd K c C=true)(e3:xmkIn K C fI=true)(b:Binds K fd ps [])(e4:keepIn K (.ref C)=true)(e5:(ns.all λf=>findIn K (.ref C) f == some none)=true):XT K mg c C fI fd ps ns :=
 ⟨mg_of X G e1,e2,xmk_of e3,b,e4,λf hf=>b8.mp (aY.mp e5 f hf)⟩
theorem XH.mk'{K:Frag}{mg:Str->Option Value}{h:Heap}(X:K.In h)(G:h.Ns mainGlobals mg){c:Str}{C:Addr}(e1:nsIn K mainGlobals c=some (some (.ref C)))(e2:((clsIn K C).any λcd=>cd.name == c)=true) (e3:typeIn K (.ref C)=some (.type "type")) (e4:mroIn K C (.type "BaseException")=some true):XH K mg c C :=
 ⟨mg_of X G e1,e1,(let ⟨cd,h1,h2⟩:=any_some e2;⟨cd,h1,b8.mp h2⟩),e3,e4⟩
theorem spLI_len{K:Frag}:∀vs H Q E,spLI K vs H Q E->vs.length=2:=λ_ _ _ _ ⟨_,_,_,_,_,_,e,_⟩=>by rw[e];rfl
theorem spXI_len{K:Frag}{ns:List Str}:∀vs H Q E,spXI K ns vs H Q E->vs.length=ns.length+1:=λ_ _ _ _ ⟨_,_,_,_,_,_,e,_,_,_,l,_⟩=>by rw[e,aX,l]
end
end L2
namespace L2
open PySem PySem.Spec PyProof.Rows
section
variable{κ:Type}[DecidableEq κ]
theorem KV.any{kvs:List (κ×V)}{vs:List (κ×Value)}(r:KV kvs vs)(k:κ):(kvs.any λkv=>decide (kv.1=k))=vs.any λkv=>decide (kv.1=k):=by
 unfold KV at r
 induction r with
 |nil=>rfl
 |cons h t ih=>rw[bO,bO,ih,h.1]
theorem KV.length{kvs:List (κ×V)}{vs:List (κ×Value)}(r:KV kvs vs):kvs.length=vs.length:=Paired.length r
end
theorem kV_is{P:Program}{w:World}{k:Key}{u:Value}(r:RelV (kV k) u):(mixKind P w).is k u=true:=by
 cases k with
 |inl i=>obtain⟨t,e⟩:=(show ∃t,u=Value.int i t from r);subst e;exact mixKind_int P w i t
 |inr x=>obtain⟨t,e⟩:=(show ∃t,u=Value.str x t from r);subst e;exact mixKind_str P w x t
abbrev DR(K:PySem.W.Frag)(H:Hp):List (Key×V)->List (Key×D)->Prop:=Paired λ(p:Key×V) (q:Key×D)=>p.1=q.1/\Rep K H p.2 q.2
theorem DR.any{K:PySem.W.Frag}{H:Hp}{k:Key}:∀{vs:List (Key×V)}{kvs:List (Key×D)},DR K H vs kvs->(vs.any λp=>decide (p.1=k))=kvs.any λp=>decide (p.1=k)
 |_,_,.nil=>rfl
 |p::vs,q::kvs,.cons h t=>by rw[bO,bO,DR.any t,h.1]
section
variable{X:Cx}{pos:Pos}
noncomputable def flatC:D->Bool
 |.int _=>true
 |.str _=>true
 |.bl _=>true
 |.non=>true
 |_=>false
theorem Rep.flatC{K:PySem.W.Frag}{H H':Hp}{v:V}{d:D}(h:L2.flatC d=true)(r:Rep K H v d):Rep K H' v d:=by
 cases r with
 |int i=>exact .int i
 |str i=>exact .str i
 |bl i=>exact .bl i
 |non=>exact .non
 |_=>cases h
inductive DPs (X:Cx):List (Option Expr)->List Expr->List (Key×D)->Prop where
 |nil:DPs X [] [] []
 |int {k v:Expr} {ks:List (Option Expr)} {vs:List Expr} {i:Int} {d:D} {kvs:List (Key×D)} (hk:PL X k (wC (.int i))) (hv:PL X v (wC d)) (hf:flatC d=true) (t:DPs X ks vs kvs):DPs X (some k::ks) (v::vs) ((.inl i,d)::kvs)
 |str {k v:Expr} {ks:List (Option Expr)} {vs:List Expr} {y:Str} {d:D} {kvs:List (Key×D)} (hk:PL X k (wC (.str y))) (hv:PL X v (wC d)) (hf:flatC d=true) (t:DPs X ks vs kvs):DPs X (some k::ks) (v::vs) ((.inr y,d)::kvs)
theorem DPs.run{pos:Pos}{ae:List (Addr×Obj)}{σ:St}{Pr:Hp}{Z:Ev}:∀{ks:List (Option Expr)}{vs:List Expr}{kvs:List (Key×D)},DPs X ks vs kvs->∀{H:Hp}{s:Shared}{Q:List (Value×Value)->Shared->Prop},Inv X ae σ H s->REnv X.K Pr H σ Z ->
  (∀(H':Hp)(s':Shared)(us:List (Value×Value))(ps:List (Key×V))(qs:List (Key×Value)),Inv X ae σ H' s'->REnv X.K Pr H' σ Z->Carries (mixKind X.prog X.w) us qs->KV ps qs->DR X.K H' ps kvs->Q us s') ->
  wpAny (model X.prog X.w) X.A (evalPairs (pairTrees ks vs X.env pos)) Q X.xe s
 |_,_,_,.nil,H,s,Q,I,E,h=>pairTrees_nil_walk (h H s [] [] [] I E True.intro .nil .nil)
 | _,_,_,.int (d:=d) hk hv hf t,H,s,Q,I,E,h=>by refine pairTrees_cons_walk (thn (hk ae s σ H Pr Z (λr Z'=>r=.d _/\Z'=Z) I E ⟨rfl,rfl⟩) λu s1 ⟨v,H1,r,Z',I1,rv,E1,e1,e2⟩=>?_);subst e1 e2;refine thn (hv ae s1 σ H1 Pr _ (λr Z'=>r=.d d/\Z'=_) I1 E1.tail ⟨rfl,rfl⟩) λu2 s2 ⟨v2,H2,r2,Z2,I2,rv2,E2,e1,e2⟩=>?_;subst e1 e2;obtain⟨_,z1,p1⟩:=E1.head_d;cases z1;cases p1;obtain⟨_,z2,p2⟩:=E2.head_d;cases z2;exact DPs.run t I2 E2.tail λH' s' us ps qs I3 E3 hc hk3 hd=>h H' s' ((u,u2)::us) ((.inl _,v2)::ps) ((.inl _,u2)::qs) I3 E3 ⟨kV_is rv,rfl,hc⟩ (.cons ⟨rfl,rv2⟩ hk3) (.cons ⟨rfl,p2.flatC hf⟩ hd)
 | _,_,_,.str (d:=d) hk hv hf t,H,s,Q,I,E,h=>by refine pairTrees_cons_walk (thn (hk ae s σ H Pr Z (λr Z'=>r=.d _/\Z'=Z) I E ⟨rfl,rfl⟩) λu s1 ⟨v,H1,r,Z',I1,rv,E1,e1,e2⟩=>?_);subst e1 e2;refine thn (hv ae s1 σ H1 Pr _ (λr Z'=>r=.d d/\Z'=_) I1 E1.tail ⟨rfl,rfl⟩) λu2 s2 ⟨v2,H2,r2,Z2,I2,rv2,E2,e1,e2⟩=>?_;subst e1 e2;obtain⟨_,z1,p1⟩:=E1.head_d;cases z1;cases p1;obtain⟨_,z2,p2⟩:=E2.head_d;cases z2;exact DPs.run t I2 E2.tail λH' s' us ps qs I3 E3 hc hk3 hd=>h H' s' ((u,u2)::us) ((.inr _,v2)::ps) ((.inr _,u2)::qs) I3 E3 ⟨kV_is rv,rfl,hc⟩ (.cons ⟨rfl,rv2⟩ hk3) (.cons ⟨rfl,p2.flatC hf⟩ hd)
theorem DPs.len:∀{ks:List (Option Expr)}{vs:List Expr}{kvs:List (Key×D)},DPs X ks vs kvs->ks.all (·.isSome)=true/\ks.length=vs.length/\ks.length=kvs.length
 |_,_,_,.nil=>⟨rfl,rfl,rfl⟩
 | _,_,_,.int _ _ _ t=>by obtain⟨h1,h2,h3⟩:=t.len;simp[h1,h2,<- h3]
 | _,_,_,.str _ _ _ t=>by obtain⟨h1,h2,h3⟩:=t.len;simp[h1,h2,<- h3]
end
end L2
namespace L2
open PySem PySem.Spec PyProof.Rows PySem.SeqAt
mutual
noncomputable def sameOk:Nat->D->Bool
 |_,.non=>true
 |_,.bl _=>true
 |_,.int _=>true
 |_,.str _=>true
 |n+1,.tup xs=>sameOks n xs
 |n+1,.lst xs=>sameOks n xs
 |n+1,.dct m=>m == 0
 |_,_=>false
noncomputable def sameOks:Nat->List D->Bool
 |_,[]=>true
 |n,x::xs=>sameOk n x && sameOks n xs
end
mutual
noncomputable def sgnD:D->Nat
 |.int _=>602
 |.str x=>10*x.length+2
 |.tup xs=>sgnDs xs+3
 |.lst xs=>sgnDs xs+3
 |_=>6
noncomputable def sgnDs:List D->Nat
 |[]=>0
 |x::xs=>sgnD x+2+sgnDs xs
end
mutual
theorem sgn_is:∀d:D,(toP d).leavesShort 601=true->(toP d).shown.length<=sgnD d
 |.non,_=>by decide
 |.bl b,_=>by cases b<;>decide
 | .int i,h=>by
  have e:(PyData.shown (.int i)).length<=601:=by simpa only[toP,PyData.leavesShort,bI]using h
  exact Nat.le_succ_of_le e
 | .str x,h=>by
  have hx:∀c∈x.cps.toList,c<16^8:=by simpa only[toP,PyData.leavesShort,aY,bI]using h
  have e:=PySem.StrLaws.reprText_len x hx
  simp only[toP,PyData.shown,sgnD]
  omega
 | .tup xs,h=>by
  have h1:=sgn_iss xs (by simpa only[toP,PyData.leavesShort]using h)
  have h2:=tupleText_len_le (PyData.shownAll (toPs xs))
  have h3:=PyData.shownAll_length (toPs xs)
  simp only[toP,PyData.shown,sgnD]
  omega
 | .lst xs,h=>by
  have h1:=sgn_iss xs (by simpa only[toP,PyData.leavesShort]using h)
  have h2:=listText_len_le (PyData.shownAll (toPs xs))
  have h3:=PyData.shownAll_length (toPs xs)
  simp only[toP,PyData.shown,sgnD]
  omega
 |.dct _,_=>by simp only[toP,sgnD];decide
 |.exc _ _ _,_=>by simp only[toP,sgnD];decide
 |.fn _ _,_=>by simp only[toP,sgnD];decide
 |.dk _ _,_=>by simp only[toP,sgnD];decide
 |.gf _,_=>by simp only[toP,sgnD];decide
theorem sgn_iss:∀ds:List D,PyData.leavesShortAll 601 (toPs ds)=true->((PyData.shownAll (toPs ds)).map (·.length)).sum+2*(toPs ds).length<=sgnDs ds
 |[],_=>by simp only[toPs,PyData.shownAll,List.map_nil,List.sum_nil,List.length_nil,sgnDs];omega
 | d::ds,h=>by
  have h':(toP d).leavesShort 601=true/\PyData.leavesShortAll 601 (toPs ds)=true:=by simpa only[toPs,PyData.leavesShortAll,aL]using h
  have h1:=sgn_is d h'.1
  have h2:=sgn_iss ds h'.2
  simp only[toPs,PyData.shownAll,a8,List.sum_cons,aX,sgnDs]
  omega
end
end L2
namespace L2
open PySem PySem.Spec PyProof.Rows
end L2
namespace L2
open PySem PySem.Spec PyProof.Rows PySem.W
end L2
namespace L2
open PySem PySem.Spec PyProof.Rows
end L2
namespace L2
open PySem PySem.Spec PyProof.Rows PySem.SeqAt
mutual
noncomputable def okW:D->Bool
 |.dct n=>n == 0
 |.exc _ _ _=>false
 |.fn _ _=>false
 |.dk _ _=>false
 |.gf _=>false
 |.tup xs=>okWs xs
 |.lst xs=>okWs xs
 |.str x=>PyData.strOk x
 |_=>true
noncomputable def okWs:List D->Bool
 |[]=>true
 |x::xs=>okW x && okWs xs
end
mutual
theorem okW_short:∀d:D,okW d=true->shortD d=true->(toP d).leavesShort 601=true
 |.non,_,_=>rfl
 |.bl _,_,_=>rfl
 |.dct _,_,_=>rfl
 |.exc _ _ _,h,_=>by simp[okW]at h
 |.fn _ _,h,_=>by simp[okW]at h
 |.dk _ _,h,_=>by simp[okW]at h
 |.gf _,h,_=>by simp[okW]at h
 | .int i,_,h=>by
  have:=(short_is (.int i) h).1
  simpa only[toP,PyData.leavesShort,PyData.intsShort]using this
 |.str x,h,hs=>PyData.leavesShort_of_canLay0 601 (.str x) (by simpa only[okW,PyData.canLay0]using h) (short_is (.str x) hs).1
 | .tup xs,h,hs=>by
  have:=okWs_short xs (by simpa only[okW]using h) (by simpa only[shortD]using hs)
  simpa only[toP,PyData.leavesShort]using this
 | .lst xs,h,hs=>by
  have:=okWs_short xs (by simpa only[okW]using h) (by simpa only[shortD]using hs)
  simpa only[toP,PyData.leavesShort]using this
theorem okWs_short:∀ds:List D,okWs ds=true->shortDs ds=true->PyData.leavesShortAll 601 (toPs ds)=true
 |[],_,_=>rfl
 | d::ds,h,hs=>by
  simp only[okWs,aL]at h
  simp only[shortDs,aL]at hs
  simp only[toPs,PyData.leavesShortAll,okW_short d h.1 hs.1,okWs_short ds h.2 hs.2,Bool.and_self]
end
structure StrW (d:D):Prop where
 ok:okW d=true
 sh:shortD d=true
 dp:(toP d).depth<=40
 sg:sgnD d<=16777216
 ni:∀i,d≠.int i
theorem StrW.len{d:D}(h:StrW d):(toP d).shown.length<=sizeLine:=by
 have e:sizeLine=16777216:=by decide
 rw[e];exact aG (sgn_is d (okW_short d h.ok h.sh)) h.sg
end L2
namespace L2
open PySem PySem.Spec PyProof.Rows
section
def takeW(o:Option L)(i k:Nat)(Z:Ev)(ag:L->Ev->Prop):Prop:=match o with
 |some (.bx none ls)=>∃l,ls[k]?=some l/\ag l (Z.set i (.bx none (ls.set k .un)))
 |some (.d (.tup ds))=>∃d,ds[k]?=some d/\ag (.d d) Z
 |_=>False
theorem takeW_bx(ls:List L)(i k:Nat)(Z:Ev)(ag:L->Ev->Prop):takeW (some (.bx none ls)) i k Z ag=∃l,ls[k]?=some l/\ag l (Z.set i (.bx none (ls.set k .un))):=(rfl)
theorem takeW_d(ds:List D)(i k:Nat)(Z:Ev)(ag:L->Ev->Prop):takeW (some (.d (.tup ds))) i k Z ag=∃d,ds[k]?=some d/\ag (.d d) Z:=(rfl)
end
section
def tupOf(r:L)(Z:Ev)(ag:L->Ev->Prop):Prop:=match r with
 |.bx (some _) ls=>ag (.bx none ls) Z
 |_=>False
theorem tupOf_bx(a:Addr)(ls:List L)(Z:Ev)(ag:L->Ev->Prop):tupOf (.bx (some a) ls) Z ag=ag (.bx none ls) Z:=(rfl)
end
end L2
namespace L2
open PySem PySem.Spec PyProof.Rows PySem.W
def datV(i:Nat)(Z:Ev)(k:D->Prop):Prop:=match Z[i]? with
 |some (.d x)=>k x
 |_=>False
theorem datV_is{i:Nat}{Z:Ev}{k:D->Prop}(h:datV i Z k):∃x,Z[i]?=some (.d x)/\k x:=by
 unfold datV at h;split at h
 . rename_i x q;exact⟨x,q,h⟩
 . exact h.elim
theorem Un.one{P:Program}{w:World}{fs:List Addr}{H H':Hp}{h h':Heap}{c:Addr}{oc:Obj}(hc:H c=none)(gc:h.get? c=some oc)(cc:∀q,¬CodeOb oc q)(u:Un fs [] (upd H c (.frz oc (.own c))) H' h h')(ok:HOk P w H' h') :
  Un fs [] H (del H' c) h h'/\HOk P w (del H' c) h':=by
 have zc:H' c=some (.frz oc (.own c)):=u.frzs c oc _ upd_same;have gc':h'.get? c=some oc:=(ok c _ zc).1;have nz:∀b o,H' b=some o->o≠.frz oc (.own c)->b≠c:=λb o e n z=>by subst z;rw[zc]at e;cases e;exact n rfl
 refine⟨⟨λb o e n hb hx=>?_,λb o e n hb hx=>?_,λb o e n hx=>?_,λb o e hx=>u.there b o e hx,λb xs e=>?_,λb o v e=>?_,λb t e=>?_⟩,λb o e=>?_⟩
 .
  by_cases z:b=c
  . subst z;rw[gc]at e;cases e;exact gc'
  . exact u.keep b o e (by rw[upd_ne z];exact n) hb hx
 .
  by_cases z:b=c
  . subst z;rw[gc]at e;cases e;exact⟨oc.slots,gc'⟩
  . exact u.slot b o e (by rw[upd_ne z];exact n) hb hx
 .
  by_cases z:b=c
  . subst z;exact del_self
  . rw[del_ne z];exact u.free b o e (by rw[upd_ne z];exact n) hx
 . have z:=ne_of_none e hc;rw[del_ne z];exact u.tups b xs (by rw[upd_ne z];exact e)
 . have z:=ne_of_none e hc;rw[del_ne z];exact u.frzs b o v (by rw[upd_ne z];exact e)
 . have z:=ne_of_none e hc;rw[del_ne z];exact u.tbls b t (by rw[upd_ne z];exact e)
 .
  have hb:b≠c:=λz=>by subst z;rw[del_self]at e;cases e
  rw[del_ne hb]at e;refine(ok b o e).stay (λ_ _ _ z=>z) (λd z=>?_) (λd xs z=>?_) λd od q co z=>?_
  . rw[del_ne (nz d _ z λy=>nomatch y)];exact z
  . rw[del_ne (nz d _ z λy=>nomatch y)];exact z
  . rw[del_ne (nz d _ z λy=>by cases y;exact cc q co)];exact z
end L2
namespace L2
open PySem PySem.W
end L2
namespace L2
open PySem PySem.Spec PyProof.Rows PySem.SeqAt
structure RepW (d:D):Prop where
 ok:okW d=true
 sh:shortD d=true
 dp:(toP d).depth<=40
 sg:sgnD d<=16777216
theorem RepW.len{d:D}(h:RepW d):(toP d).shown.length<=sizeLine:=by
 have e:sizeLine=16777216:=by decide
 rw[e];exact aG (sgn_is d (okW_short d h.ok h.sh)) h.sg
end L2
namespace L2
open PySem PySem.Spec PyProof.Rows
def pkS(o q:Option L)(i j:Nat)(t:W L)(Z:Ev)(ag:L->Ev->Prop):Prop:=match o,q with
 |some (.own _ xs),some (.own b _)=>i≠j/\flatOwn i Z=true/\t (Z.set i (.d (.lst xs))) λr Z'=>noLr r=true/\∃zs,noLs zs=true/\Z'=(Z.set i (.d (.lst xs))).set j (.own b zs)/\ag r (Z.set j (.own b zs))
 |_,_=>False
theorem pkS_own(a b:Addr)(xs ys:List D)(i j:Nat)(t:W L)(Z:Ev)(ag:L->Ev->Prop):pkS (some (.own a xs)) (some (.own b ys)) i j t Z ag=(i≠j/\flatOwn i Z=true/\t (Z.set i (.d (.lst xs))) λr Z'=>noLr r=true/\∃zs,noLs zs=true/\Z'=(Z.set i (.d (.lst xs))).set j (.own b zs)/\ag r (Z.set j (.own b zs))):=(rfl)
def trdW(o:Option L)(Z:Ev)(ag:Bool->Ev->Prop):Prop:=match o with
 |some (.d (.lst xs))=>ag (!xs.isEmpty) Z
 |_=>False
theorem trdW_lst(xs:List D)(Z:Ev)(ag:Bool->Ev->Prop):trdW (some (.d (.lst xs))) Z ag=ag (!xs.isEmpty) Z:=(rfl)
def wTruD(i:Nat):W Bool:=λZ ag=>trdW Z[i]? Z ag
theorem pb_truD{X:Cx}(i:Nat){x:Str}{p:Pos}(hN:X.N[i]?=some x:=by rfl)(hv:Vis X.env.scope x:=by first | exact Or.inl rfl | exact Or.inr (Or.inl rfl) | exact Or.inr (Or.inr rfl)) (hd:(x == ("__debug__" : Str))=false:=by decide)
  (hcd:(x == ("__classdict__" : Str))=false:=by decide) (he:∀ whole,isTrue (.Name x p) X.env whole=(do let v <- whole; standAt (Expr.Name x p).pos; holding [v] (truthy v)):=by intro _; rfl):PB X (.Name x p) (wTruD i):=by
 intro ae s σ H Pr Z ag I E h;unfold wTruD trdW at h;split at h
 rotate_left
 . exact h.elim
 rename_i xs0 q0;obtain⟨sv,hσ,sl⟩:=E.slot q0;unfold Slot1 at sl;obtain⟨v,rfl,r⟩:=sl
 cases r with
 | lst hz rs =>
  rename_i a vs0;have em:(!vs0.isEmpty)=!xs0.isEmpty:=by have:=rs.length;cases vs0<;>cases xs0<;>simp at this ⊢
  refine thn (pt_truth (pe_var hN hv hd hcd) he ae s σ H (λb H'=>b=(!xs0.isEmpty)/\H'=H) I ⟨.ref a,hσ,_,.inl ⟨vs0,hz.l,rfl⟩,em,rfl⟩) λb s1 ⟨H1,I1,e1,e2⟩=>?_;subst e1 e2;exact⟨H1,Z,I1,E,h⟩
end L2
namespace HT
open PySem PySem.Spec PyProof.Rows
end HT
namespace L2
open PySem PySem.Spec PyProof.Rows
end L2
namespace L2
open PySem PySem.Spec PyProof.Rows PySem.W
end L2
namespace L2
open PySem PySem.Spec PyProof.Rows PySem.SeqAt
end L2
namespace PySem
open PySem.Spec
namespace F
end F
end PySem
namespace L2
open PySem PySem.Spec PyProof.Rows PySem.W
section
variable{key:Nat->Int}{n:Nat}{I:Shared->Prop}{cmp:Nat->Nat->(Bool->Shared->Prop)->Shared->Prop}
def KTok(I:Shared->Prop)(cmp:Nat->Nat->(Bool->Shared->Prop)->Shared->Prop){α:Type}(t:KasT α)(P:α->Prop):Prop:=∀(Q:α->Shared->Prop)(s:Shared),I s->(∀a s',I s'->P a->Q a s')->t.kasWp cmp Q s
def KCmp(key:Nat->Int)(n:Nat)(I:Shared->Prop)(cmp:Nat->Nat->(Bool->Shared->Prop)->Shared->Prop):Prop:=∀(i j:Nat)(C:Bool->Shared->Prop)(s:Shared),i<n->j<n->i≠j->I s->(∀s',I s'->C (decide (key i<key j)) s')->cmp i j C s
noncomputable def kk(key:Nat->Int)(p:Array Nat)(i:Nat):Int:=key (p.getD i 0)
structure KGood (n:Nat) (p:Array Nat):Prop where
 sz:p.size=n
 pm:p.toList.Perm (List.range n)
theorem KGood.lt{p:Array Nat}(g:KGood n p){i:Nat}(h:i<n):p.getD i 0<n:=by
 have hs:i<p.size:=by rw[g.sz];exact h
 have e:p.getD i 0=p[i]:=by simp[Array.getD,hs]
 rw[e];exact List.mem_range.mp (g.pm.mem_iff.mp (by rw[<- Array.getElem_toList];exact List.getElem_mem _))
theorem KTok.mono{α:Type}{t:KasT α}{P R:α->Prop}(h:KTok I cmp t P)(hr:∀a,P a->R a):KTok I cmp t R:=λQ s hI hq=>h Q s hI λa s' hI' ha=>hq a s' hI' (hr a ha)
end
end L2
namespace L2
open PySem PySem.Spec PyProof.Rows PySem.Builtin.Str
section
variable{X:Cx}{o e a b c:Expr}{es rest:List Expr}{pos p apos cpos:Pos}{to te:W L}{x y:Str}
theorem isStrL{f:Str->Prop}:∀{r:L},(match r with | .d (.str x)=>f x|_=>False)->∃z,r=.d (.str z)
 |.d (.str z),_=>⟨z,rfl⟩
def rStarts:V->List V->Hp->VK->Prop:=λx vs H Q=>∃z y,x=.str z/\vs=[.str y]/\Q (.bl (Txt.startswith z y)) H
theorem mt_starts:MtR X "str.startswith" rStarts:=by intro ae s σ H x vs v us Q I rx rv h;obtain⟨z,y,rfl,rfl,q⟩:=h;obtain⟨t,rfl⟩:=rx;obtain⟨u,rfl,ru⟩:=rv.one;obtain⟨t',rfl⟩:=ru;exact SC.startswith ⟨.bl _,H,I,rfl,q⟩
def wStarts(to:W L)(y:Str):W L:=λZ ag=>to Z λr Z1=>match r with
 |.d (.str x)=>ag (.d (.bl (Txt.startswith x y))) Z1
 |_=>False
theorem pl_starts{y:Str}{j:Nat}{pz:Pos}(ho:PL X o to)(hs1:starEach [.Constant (.str y) j pz] X.env=[(false,eval (.Constant (.str y) j pz) X.env)]:=by rfl) (hbase:attributeBase o "startswith" X.env (eval o X.env)=eval o X.env:=by rfl)
  (hfew:((backTo cpos (starEach [.Constant (.str y) j pz] X.env)).all (λx=>!x.1) && (backToKw cpos (keywordEach [] X.env)).all (λx=>x.1.isSome)
   && decide (([Expr.Constant (.str y) j pz]).length+([]:List Keyword).length+(if([]:List Keyword).isEmpty then 0 else 1)<30))=true:=by rfl)
  (hline:(apos.endLine == cpos.line)=true:=by rfl) (hplain:(backTo cpos (starEach ([]:List Expr) X.env)).any (·.1)=false:=by rfl) :
  PL X (.Call (.Attribute o "startswith" apos) [.Constant (.str y) j pz] [] cpos) (wStarts to y):=by
 refine PL.of (pe_bm PySem.F.plainAttrs_str PySem.F.slot_str_startswith PySem.F.type_str_startswith mt_starts ho.pe (pa_cons pe_str pa_nil hs1) (hbase:=hbase) (hfew:=hfew) (hline:=hline) (hs:=hs1) (hplain:=hplain)) λσ H Pr Z ag E h=>?_;refine⟨Pr,Z,_,E,h,λv H' r Z' E' pp=>?_⟩;obtain⟨z,rfl⟩:∃z,r=.d (.str z):=isStrL pp;obtain⟨_,e1,p1⟩:=E'.head_d;cases e1;cases p1;exact⟨rfl,z,y,rfl,rfl,_,_,E'.tail.cons_d (.bl _),pp⟩
theorem spl_new{prog:Program}{w:World}{A:Around}{E:Value->Shared->Prop}{s:Shared}{t u:Tok}{Q:Value->Shared->Prop}(hy:(y.length == 0)=false)(h1:x.length<=sizeLine)(h2:(Txt.split x y).length<=sizeLine)
  (hq:∀(tk:Nat)(l:List (Str×Tok)),l.map (·.1)=Txt.split x y->Q (.ref s.heap.objs.size) {s with heap:=s.heap.push {cls:=.type "list",data:=.seq (strValues l).toArray},toks:=tk}) :
  wpAny (model prog w) A (call (.builtin "str.split") [.str x t,.str y u]) Q E s:=by
 by_cases c:(decide (x.length<y.length) ||decide (strKind x<strKind y))=true
 . refine call_meets F.slot_str_split (typeIs_str _ _ _) F.entry_str_split (F.args_str_split_2 _ _) (meets_str_split_cannot_occur x y t u c) ?_;exact hq _ [(x,t)] (by unfold Txt.split;rw[if_pos c];rfl)
 .
  have c':=Bool.eq_false_iff.mpr c;by_cases d:(occurrences x y 0 x.length (x.length+1)).isEmpty=true
  . refine call_meets F.slot_str_split (typeIs_str _ _ _) F.entry_str_split (F.args_str_split_2 _ _) (meets_str_split_not_found x y t u c' hy d) ?_;exact hq _ [(x,t)] (by unfold Txt.split;rw[if_neg c,if_pos d];rfl)
  .
   have d':=Bool.eq_false_iff.mpr d;have es:Txt.split x y=partsBetween x (occurrences x y 0 x.length (x.length+1)) y.length:=by unfold Txt.split;rw[if_neg c,if_neg d]
   rw[es]at h2;refine call_meets F.slot_str_split (typeIs_str _ _ _) F.entry_str_split (F.args_str_split_2 _ _) (meets_str_split_sep x y t u c' hy d' h1 h2) ?_;have:=hq (s.toks+(partsBetween x (occurrences x y 0 x.length (x.length+1)) y.length).length) (numbered s.toks (partsBetween x (occurrences x y 0 x.length (x.length+1)) y.length)) (by unfold Txt.split;rw[if_neg c,if_neg d];exact numbered_texts _ _);rw[<- strsFrom_eq]at this;exact this
theorem vals_strV:∀(l:List (Str×Tok))(zs:List Str),l.map (·.1)=zs->Vals (zs.map V.str) (strValues l)
 |[],_,rfl=>.nil
 |p::l,_,rfl=>.cons ⟨p.2,rfl⟩ (vals_strV l _ rfl)
theorem reps_ofS{K:PySem.W.Frag}{H:Hp}:∀zs:List Str,Reps K H (zs.map V.str) (zs.map D.str)
 |[]=>.nil
 |z::zs=>.cons (.str z) (reps_ofS zs)
def SplOk(x y:Str):Prop:=(y.length == 0)=false/\x.length<=sizeLine/\(Txt.split x y).length<=sizeLine
def rSplit:V->List V->Hp->VK->Prop:=λx vs H Q=>∃z y,x=.str z/\vs=[.str y]/\SplOk z y/\∀p,H p=none->Q (.ref p) (upd H p (.lst ((Txt.split z y).map V.str)))
theorem mt_split:MtR X "str.split" rSplit:=by intro ae s σ H x vs v us Q I rx rv h;obtain⟨z,y,rfl,rfl,⟨k1,k2,k4⟩,q⟩:=h;obtain⟨t,rfl⟩:=rx;obtain⟨u,rfl,ru⟩:=rv.one;obtain⟨t',rfl⟩:=ru;refine spl_new k1 k2 k4 λtk l e=>⟨.ref _,_,I.lnew (t':=tk) (vals_strV l _ e) (by rw[aC];exact k4),rfl,q _ I.fresh⟩
def wSplit(to:W L)(y:Str):W L:=λZ ag=>to Z λr Z1=>match r with
 |.d (.str x)=>SplOk x y/\∀a,ag (.own a ((Txt.split x y).map D.str)) Z1
 |_=>False
theorem pl_split{y:Str}{j:Nat}{pz:Pos}(ho:PL X o to)(hs1:starEach [.Constant (.str y) j pz] X.env=[(false,eval (.Constant (.str y) j pz) X.env)]:=by rfl) (hbase:attributeBase o "split" X.env (eval o X.env)=eval o X.env:=by rfl)
  (hfew:((backTo cpos (starEach [.Constant (.str y) j pz] X.env)).all (λx=>!x.1) && (backToKw cpos (keywordEach [] X.env)).all (λx=>x.1.isSome)
   && decide (([Expr.Constant (.str y) j pz]).length+([]:List Keyword).length+(if([]:List Keyword).isEmpty then 0 else 1)<30))=true:=by rfl)
  (hline:(apos.endLine == cpos.line)=true:=by rfl) (hplain:(backTo cpos (starEach ([]:List Expr) X.env)).any (·.1)=false:=by rfl) :
  PL X (.Call (.Attribute o "split" apos) [.Constant (.str y) j pz] [] cpos) (wSplit to y):=by
 refine PL.of (pe_bm PySem.F.plainAttrs_str PySem.F.slot_str_split PySem.F.type_str_split mt_split ho.pe (pa_cons pe_str pa_nil hs1) (hbase:=hbase) (hfew:=hfew) (hline:=hline) (hs:=hs1) (hplain:=hplain)) λσ H Pr Z ag E h=>?_;refine⟨Pr,Z,_,E,h,λv H' r Z' E' pp=>?_⟩;obtain⟨z,rfl⟩:∃z,r=.d (.str z):=isStrL pp;obtain⟨ok,pp⟩:=pp;obtain⟨_,e1,p1⟩:=E'.head_d;cases e1;cases p1;exact⟨rfl,z,y,rfl,rfl,ok,λp hp=>⟨_,_,E'.tail.cons_own hp (reps_ofS _),pp p⟩⟩
theorem call_intT:CallR X (.type "int") (λxs H Q=>∃ z n,xs=[.str z]/\z.length<=640/\PySem.intText? z=some n/\Q (.int n) H):=by intro ae s σ H xs us Q I r h;obtain⟨z,n,rfl,hl,hn,q⟩:=h;obtain⟨u,rfl,t,rfl⟩:=vals1 r;exact PySem.W.KIN.call_text hn hl ⟨.int n,H,I.tok _,⟨_,rfl⟩,q⟩
def opIntT:OpN:=λds k=>match ds with
 |[.str z]=>∃n,z.length<=640/\PySem.intText? z=some n/\k (.d (.int n))
 |_=>False
theorem cd_intT:CallD X (.type "int") opIntT:=CallD.of call_intT λσ H Pr Z vs ds ag E ps h=>by
 unfold opIntT at h;split at h
 case h_2=>exact h.elim
 rename_i z;obtain⟨n,hl,hn,h⟩:=h;obtain⟨v,rfl,r⟩:=reps1 ps;cases r;exact⟨z,n,rfl,hl,hn,_,E.cons_d (.int _),h⟩
theorem call_strI:CallR X (.type "str") (λxs H Q=>∃ n,xs=[.int n]/\n.natAbs.log2 < 1920/\Q (.str (Str.ofString (toString n))) H):=by intro ae s σ H xs us Q I r h;obtain⟨n,rfl,hl,q⟩:=h;obtain⟨u,rfl,t,rfl⟩:=vals1 r;exact PySem.P.str_of_int hl ⟨.str _,H,I.tok _,⟨_,rfl⟩,q⟩
def opStrI:OpN:=λds k=>match ds with
 |[.int n]=>n.natAbs.log2<1920/\k (.d (.str (Str.ofString (toString n))))
 |_=>False
theorem cd_strI:CallD X (.type "str") opStrI:=CallD.of call_strI λσ H Pr Z vs ds ag E ps h=>by
 unfold opStrI at h;split at h
 case h_2=>exact h.elim
 rename_i n;obtain⟨hl,h⟩:=h;obtain⟨v,rfl,r⟩:=reps1 ps;cases r;exact⟨n,rfl,hl,_,E.cons_d (.str _),h⟩
def wFmt(te:W L):W L:=λZ ag=>te Z λr Z1=>match r with
 |.d (.int i)=>i.natAbs.log2<1920/\ag (.d (.str (Str.ofString (toString i)))) Z1
 |.d (.str x)=>x.length<=sizeLine/\ag (.d (.str x)) Z1
 |_=>False
theorem isFmt{f:Int->Prop}{g:Str->Prop}:∀{r:L},(match r with | .d (.int i)=>f i | .d (.str x)=>g x|_=>False)->(∃i,r=.d (.int i))∨∃z,r=.d (.str z)
 |.d (.int i),_=>.inl ⟨i,rfl⟩
 |.d (.str z),_=>.inr ⟨z,rfl⟩
theorem pl_fmt(he:PL X e te):PL X (.FormattedValue e (-1) none pos) (wFmt te):=by
 intro ae s σ H Pr Z ag I E h;refine FormattedValue_plain (thn (he ae s σ H Pr Z _ I E h) λu s1 ⟨v,H1,r,Z',I1,rv,E1,pp⟩=>?_);rcases isFmt pp with⟨i,rfl⟩|⟨x,rfl⟩
 . obtain⟨hi,pp⟩:=pp;obtain⟨_,e1,p1⟩:=E1.head_d;cases e1;cases p1;obtain⟨t,rfl⟩:=rv;exact formatField_int_small hi ⟨.str _,H1,_,Z',I1.tok _,⟨_,rfl⟩,E1.tail.cons_d (.str _),pp⟩
 . obtain⟨hx,pp⟩:=pp;obtain⟨_,e1,p1⟩:=E1.head_d;cases e1;cases p1;obtain⟨t,rfl⟩:=rv;exact formatField_str (λt' tk=>⟨.str _,H1,_,Z',I1.tok _,⟨_,rfl⟩,E1.tail.cons_d (.str _),pp⟩) hx
def wCat:List (W L)->Str->W L
 |[],out=>λZ ag=>out.length<=sizeLine/\ag (.d (.str out)) Z
 | t::ts,out=>λZ ag=>t Z λr Z1=>match r with
  |.d (.str y)=>(out++y).length<=sizeLine/\wCat ts (out++y) Z1 ag
  |_=>False
inductive PLs (X:Cx):List Expr->List (W L)->Prop
 |nil:PLs X [] []
 |cons {e:Expr} {es:List Expr} {t:W L} {ts:List (W L)} (h:PL X e t) (hs:PLs X es ts):PLs X (e::es) (t::ts)
theorem pls_join{ae:List (Addr×Obj)}{σ:St}{Pr:Hp}{ag:L->Ev->Prop}:∀{es:List Expr}{ts:List (W L)},PLs X es ts->∀(out:Str)(s:Shared)(H:Hp)(Z:Ev),Inv X ae σ H s->REnv X.K Pr H σ Z->wCat ts out Z ag ->
  wpAny (model X.prog X.w) X.A (joinParts out (evalEach es X.env)) (EL X ae σ Pr ag) X.xe s:=by
 intro es ts hs
 induction hs with
 | nil =>
  intro out s H Z I E h;exact joinParts_nil ⟨.str _,H,_,Z,I.tok _,⟨_,rfl⟩,E.cons_d (.str _),h.2⟩ h.1
 | cons he _ ih =>
  intro out s H Z I E h;refine joinParts_cons (thn (he ae s σ H Pr Z _ I E h) λu s1 ⟨v,H1,r,Z',I1,rv,E1,pp⟩=>?_);obtain⟨y,rfl⟩:∃z,r=.d (.str z):=isStrL pp;obtain⟨hy,pp⟩:=pp;obtain⟨_,e1,p1⟩:=E1.head_d;cases e1;cases p1;obtain⟨t,rfl⟩:=rv;exact⟨hy,ih _ s1 H1 Z' I1 E1.tail pp⟩
theorem pl_fstr{ts:List (W L)}{t1 t2:W L}(h1:PL X a t1)(h2:PL X b t2)(hs:PLs X rest ts):PL X (.JoinedStr (a::b::rest) pos) (wCat (t1::t2::ts) Str.empty) :=
 λae s σ H Pr Z ag I E h=>JoinedStr_many (pls_join (.cons h1 (.cons h2 hs)) _ s H Z I E h)
end
end L2
namespace L2
open PySem PySem.Spec PyProof.Rows
section
def strAt(o:Option L)(P:Prop):Prop:=match o with
 |some (.d (.str _))=>P
 |_=>False
theorem strAt_s(x:Str)(P:Prop):strAt (some (.d (.str x))) P=P:=(rfl)
end
end L2
namespace L2
open PySem PySem.Spec PyProof.Rows PySem.Builtin.Str
theorem globF_mk{K:PySem.W.Frag}{mg:Str->Option Value}{h:Heap}(X:K.In h)(G:h.Ns mainGlobals mg){x:Str}{a:Addr}{fd:FuncData}(h2:PySem.W.nsIn K mainGlobals x=some (some (.ref a)))
  (h3:K.lookup a=some ⟨.type "function",none,.func fd,#[]⟩) (h4:PySem.W.keepIn K (.ref a)=true):GlobT K mg x (.gf x):=⟨.ref a,_,b7 X G h2,rfl,λH=>.gf h2 h3 h4⟩
def gfIs(x:Str)(d:D)(P:Prop):Prop:=match d with
 |.gf z=>z=x/\P
 |_=>False
theorem gfIs_is{x:Str}{P:Prop}:∀{d:D},gfIs x d P->d=.gf x/\P
 |.gf z,⟨h,p⟩=>⟨by rw[h],p⟩
theorem gfIs_of(x:Str)(P:Prop):gfIs x (.gf x) P=P:=propext ⟨λh=>h.2,λh=>⟨rfl,h⟩⟩
def wCallGf(fs:FS)(x:Str)(i:Nat)(t:W (List L)):W L:=λZ ag=>datV i Z λg=>gfIs x g (wCall fs t Z ag)
section
variable{X:Cx}{k k' n:Nat}{f:Addr}{fd:FuncData}{ps:List Str}{fs:FS}{g y:Str}{st:Stmt}{e:Expr}{es:List Expr}{bs:List (Option Nat)}{t:W (List L)}{p pos:Pos}
theorem pl_callGf(F:FnOk X.prog X.w X.K X.mg X.base CX0 k f fd ps (spF X.K n fs))(T:FX X.K X.mg g st f fd ps)(hr:Room k' X.A)(i:Nat)(ha:PAL X (e::es) bs t)(hk:k<=k':=by decide)(hn:bs.length=n:=by rfl)
  (hN:X.N[i]?=some y:=by rfl) (hv:Vis X.env.scope y:=by first | exact Or.inl rfl | exact Or.inr (Or.inl rfl) | exact Or.inr (Or.inr rfl)) (hd:(y == ("__debug__" : Str))=false:=by decide)
  (hcd:(y == ("__classdict__" : Str))=false:=by decide) (he:starEach (e::es) X.env=(false,eval e X.env)::starEach es X.env:=by rfl) (hpl:(backTo pos (starEach es X.env)).any (·.1)=false:=by rfl) :
  PL X (.Call (.Name y p) (e::es) [] pos) (wCallGf fs g i t):=by
 intro ae s σ H Pr Z ag I E0 h;obtain⟨d,qi,h⟩:=datV_is h;obtain⟨rfl,hc⟩:=gfIs_is h;clear h;obtain⟨sv,hsl,w,rfl,rw⟩:=E0.slot qi
 obtain⟨a,rfl,hns⟩:∃a,w=.ref a/\PySem.W.nsIn X.K mainGlobals g=some (some (.ref a)):=by
  cases rw with
  |gf h1 h2 h3=>exact⟨_,rfl,h1⟩
 have ea:=(b7 I.ok.mod.kin I.ok.mod.glob hns).symm.trans T.m;cases ea;refine bh (thn (pe_var hN hv hd hcd ae s σ H (λw H'=>w=.ref f/\H'=H) I ⟨.ref f,hsl,rfl,rfl⟩) λu s1 ⟨w,H1,I1,r1,e1,e2⟩=>?_);subst e1 e2;cases r1;refine bR (h₀:=X.base) I1.ok.mod.kin T.f.kp (thn (ha pos ae s1 σ _ Pr Z _ I1 E0 hc) λus s1 ⟨vs,H1,ls,Z1,I1,r,hl,hbl,E1,hv,q⟩=>⟨I1.kIn,?_⟩) he hpl;have hl':(vs.map some).length=ls.length:=by simp[hl]
 refine thn (run_fn (Q:=λv H'=>∃r Z',REnv X.K Pr H' (some v::σ) (r::Z')/\ag r Z') F (hr.mono hk) T.b .nil pass0 I1 r ?_) λu s2 ⟨v,H2,I2,rv,r,Z',E2,p⟩=>⟨v,H2,r,Z',I2,rv,E2,p⟩;rw[aV];refine⟨hbl.trans hn,butOwn H1 ls,ls,_,(E1.left hl').wide,q,λv H' r ls' E2 p=>⟨r,Z1,?_,p⟩⟩;have z:=callee hl' E1 E2;have hl2:(vs.map some).length=ls'.length:=by have:=E2.len;simpa using this
 exact z.drop1 hl2
def wOr2(t u:W L):W L:=λZ ag=>t Z ag∨u Z ag
theorem pl_or2{a:Expr}{t u:W L}(ht:PL X a t)(hu:PL X a u):PL X a (wOr2 t u):=λae s σ H Pr Z ag I E h=>h.elim (ht ae s σ H Pr Z ag I E) (hu ae s σ H Pr Z ag I E)
end
section
variable{X:Cx}{o:Expr}{p apos cpos:Pos}{to:W L}
def strK(o:Option L)(k:Str->Prop):Prop:=match o with
 |some (.d (.str x))=>k x
 |_=>False
theorem strK_s(x:Str)(k:Str->Prop):strK (some (.d (.str x))) k=k x:=(rfl)
theorem strK_is{k:Str->Prop}:∀{o:Option L},strK o k->∃x,o=some (.d (.str x))/\k x
 |some (.d (.str x)),h=>⟨x,rfl,h⟩
def wSplitV(to:W L)(j:Nat):W L:=λZ ag=>to Z λr Z1=>match r with
 |.d (.str x)=>strK Z1[j]? λy=>SplOk x y/\∀a,ag (.own a ((Txt.split x y).map D.str)) Z1
 |_=>False
theorem pl_splitV{n:Str}(j:Nat)(ho:PL X o to)(hN:X.N[j]?=some n:=by rfl)(hv:Vis X.env.scope n:=by first | exact Or.inl rfl | exact Or.inr (Or.inl rfl) | exact Or.inr (Or.inr rfl)) (hd:(n == ("__debug__" : Str))=false:=by decide)
  (hcd:(n == ("__classdict__" : Str))=false:=by decide) (hs1:starEach [.Name n p] X.env=[(false,eval (.Name n p) X.env)]:=by rfl) (hbase:attributeBase o "split" X.env (eval o X.env)=eval o X.env:=by rfl)
  (hfew:((backTo cpos (starEach [.Name n p] X.env)).all (λx=>!x.1) && (backToKw cpos (keywordEach [] X.env)).all (λx=>x.1.isSome)
   && decide (([Expr.Name n p]).length+([]:List Keyword).length+(if([]:List Keyword).isEmpty then 0 else 1)<30))=true:=by rfl)
  (hline:(apos.endLine == cpos.line)=true:=by rfl) (hplain:(backTo cpos (starEach ([]:List Expr) X.env)).any (·.1)=false:=by rfl) :
  PL X (.Call (.Attribute o "split" apos) [.Name n p] [] cpos) (wSplitV to j):=by
 refine PL.of (pe_bm PySem.F.plainAttrs_str PySem.F.slot_str_split PySem.F.type_str_split mt_split ho.pe (pa_cons (pe_var hN hv hd hcd) pa_nil hs1) (hbase:=hbase) (hfew:=hfew) (hline:=hline) (hs:=hs1) (hplain:=hplain)) λσ H Pr Z ag E h=>?_;refine⟨Pr,Z,_,E,h,λv H' r Z' E' pp=>?_⟩;obtain⟨z,rfl⟩:∃z,r=.d (.str z):=isStrL pp;obtain⟨y,ey,ok,pp⟩:=strK_is pp;obtain⟨_,e1,p1⟩:=E'.head_d;cases e1;cases p1;obtain⟨sv,hsl,w,rfl,rw⟩:=E'.tail.slot ey;cases rw;exact⟨rfl,_,hsl,z,y,rfl,rfl,ok,λp hp=>⟨_,_,E'.tail.cons_own hp (reps_ofS _),pp p⟩⟩
end
end L2
namespace L2
open PySem
theorem forL_inv{g:Tg}{b:W Fl}{ag:Fl->Ev->Prop}:∀(xs:List D)(I:Nat->Ev->Prop)(Z:Ev),I 0 Z ->
  (∀j x Z,xs[j]?=some x->I j Z->∀Q:Fl->Ev->Prop,(∀Z',I (j+1) Z'->Q .nx Z')->(∀Z',I (j+1) Z'->Q .ct Z')->(∀Z',ag .nx Z'->Q .bk Z')->(∀r Z',ag (.rt r) Z'->Q (.rt r) Z')->g x Z λZ1=>b Z1 Q) ->
  (∀Z,I xs.length Z->ag .nx Z)->wForL g b xs Z ag
 |[],I,Z,h0,_,fin=>fin Z h0
 | x::xs,I,Z,h0,step,fin=>by
  unfold wForL;refine step 0 x Z rfl h0 _ (λZ' h=>?_) (λZ' h=>?_) (λZ' h=>h) (λr Z' h=>h)
  . exact forL_inv xs (λj=>I (j+1)) Z' h (λj y Z e hi=>step (j+1) y Z e hi) fin
  . exact forL_inv xs (λj=>I (j+1)) Z' h (λj y Z e hi=>step (j+1) y Z e hi) fin
theorem comp_inv{g:Tg}{ti:W Bool}{te:W L}{k:List D->Ev->Prop}:∀(xs:List D)(I:Nat->Ev->List D->Prop)(Z:Ev)(acc:List D),I 0 Z acc ->
  (∀j x Z acc,xs[j]?=some x->I j Z acc->∀Q:Ev->List D->Prop,(∀Z' acc',I (j+1) Z' acc'->Q Z' acc')->g x Z λZ1=>ti Z1 λb Z2=>if b=true then te Z2 λr Z3=>toD r λy=>Q Z3 (acc++[y])else Q Z2 acc) ->
  (∀Z acc,I xs.length Z acc->k acc Z)->compL g ti te xs Z acc k
 |[],I,Z,acc,h0,_,fin=>fin Z acc h0
 | x::xs,I,Z,acc,h0,step,fin=>by unfold compL;exact step 0 x Z acc rfl h0 (λZ acc=>compL g ti te xs Z acc k) λZ' acc' h=>comp_inv xs (λj=>I (j+1)) Z' acc' h (λj y Z acc e hi=>step (j+1) y Z acc e hi) fin
theorem comp_pure{α:Type}{enc:α->D}{h:α->Option D}{caps:Ev}{ti:W Bool}{te:W L}{k:List D->Ev->Prop}:∀(as:List α)(acc:List D)(l:L),
  (∀a∈as,∀Q:Ev->Option D->Prop,Q (.d (enc a)::caps) (h a)->ti (.d (enc a)::caps) λb Z2=>if b=true then te Z2 λr Z3=>toD r λy=>Q Z3 (some y)else Q Z2 none) ->
  (∀l',k (acc++as.filterMap h) (l'::caps))->compL (tgName 0) ti te (as.map enc) (l::caps) acc k
 |[],acc,l,_,fin=>by have:=fin l;simpa[compL]using this
 | a::as,acc,l,step,fin=>by
  show compL (tgName 0) ti te (enc a::as.map enc) (l::caps) acc k;unfold compL;show ti (.d (enc a)::caps) _
  refine step a ao (λZ o=>match o with|some y=>compL (tgName 0) ti te (as.map enc) Z (acc++[y]) k|none=>compL (tgName 0) ti te (as.map enc) Z acc k) ?_
  cases e:h a with
  |none=>exact comp_pure as acc _ (λb hb=>step b (ai _ hb)) (by simpa[b9,e]using fin)
  |some y=>exact comp_pure as (acc++[y]) _ (λb hb=>step b (ai _ hb)) (by simpa[b9,e]using fin)
theorem comp_map{α:Type}{enc:α->D}{h:α->D}{caps:Ev}{te:W L}{k:List D->Ev->Prop}(as:List α)(acc:List D)(l:L)
  (step:∀a∈as,∀Q:Ev->D->Prop,Q (.d (enc a)::caps) (h a)->te (.d (enc a)::caps) λr Z3=>toD r λy=>Q Z3 y)
  (fin:∀l',k (acc++as.map h) (l'::caps)):compL (tgName 0) wTrue te (as.map enc) (l::caps) acc k:=by
 refine comp_pure (h:=λa=>some (h a)) as acc l (λa ha Q q=>?_) (by simpa using fin);simp only[wTrue,if_true];exact step a ha (λZ y=>Q Z (some y)) q
theorem atI_0{α:Type}{x:α}{xs:List α}:atI (x::xs) 0=some x:=atI_nat (j:=0) rfl
theorem atI_1{α:Type}{x y:α}{xs:List α}:atI (x::y::xs) 1=some y:=atI_nat (j:=1) rfl
theorem atI_2{α:Type}{x y z:α}{xs:List α}:atI (x::y::z::xs) 2=some z:=atI_nat (j:=2) rfl
theorem atI_3{α:Type}{x y z w:α}{xs:List α}:atI (x::y::z::w::xs) 3=some w:=atI_nat (j:=3) rfl
theorem atI_4{α:Type}{x y z w v:α}{xs:List α}:atI (x::y::z::w::v::xs) 4=some v:=atI_nat (j:=4) rfl
theorem atI_of{α:Type}{xs:List α}{i:Int}{x:α}(h0:0<=i)(h:xs[i.toNat]?=some x):atI xs i=some x:=by have:=atI_nat h;rwa [Int.toNat_of_nonneg h0]at this
theorem ix30:ixN 3 0=some 0:=by decide
theorem ix31:ixN 3 1=some 1:=by decide
theorem ix32:ixN 3 2=some 2:=by decide
theorem forR_inv{g:Tg}{b:W Fl}{ag:Fl->Ev->Prop}(lo:Int)(n:Nat)(I:Nat->Ev->Prop)(Z:Ev)(h0:I 0 Z)
  (step:∀j Z,j<n->I j Z->∀Q:Fl->Ev->Prop,(∀Z',I (j+1) Z'->Q .nx Z')->(∀Z',I (j+1) Z'->Q .ct Z')->(∀Z',ag .nx Z'->Q .bk Z')->(∀r Z',ag (.rt r) Z'->Q (.rt r) Z')->g (.int (lo+(j:Int))) Z λZ1=>b Z1 Q)
  (fin:∀Z,I n Z->ag .nx Z):wForL g b (rngD lo n) Z ag:=by
 have hl:(rngD lo n).length=n:=by simp[rngD]
 refine forL_inv _ I Z h0 (λj x Z hj hi Q h1 h2 h3 h4=>?_) λZ h=>fin Z (by rwa [hl]at h);have hj':j<n:=by rw[<- hl];exact(ak.mp hj).1
 have e:x=.int (lo+(j:Int)):=by unfold rngD at hj;rw[bw,List.getElem?_range hj']at hj;exact(aW hj).symm
 subst e;exact step j Z hj' hi Q h1 h2 h3 h4
theorem bits_small{i:Int}(h:i.natAbs<2^200):bitsOk i:=aj h (aB ze ze)
theorem fmod_rng(x:Int){m:Int}(h:0<m):0<=x.fmod m/\x.fmod m<m:=by rw[Int.fmod_eq_emod_of_nonneg _ zZ];exact⟨Int.emod_nonneg _ zZ,Int.emod_lt_of_pos _ h⟩
theorem bits_le{i:Int}{n:Nat}(h0:0<=i)(h:i<2^n)(hn:n<=1000000):bitsOk i:=by
 have:i.natAbs<2^n:=by
  have e:((2^n:Nat):Int)=(2:Int)^n:=by simp
  omega
 exact aj this (aB ze hn)
theorem ten60:(10:Int)^60<2^200:=by decide
theorem small9000{i:Int}(h0:0<=i)(h:i<=10^60):i.natAbs<2^9000:=by
 have:i.natAbs<2^200:=by
  have:=ten60;have e:((2^200:Nat):Int)=(2:Int)^200:=by decide
  omega
 exact aj this (aB ze ze)
theorem mul_eq(p q:Rat):Rat.divInt (p.num*q.num) ((p.den:Int)*(q.den:Int))=p*q:=by rw[<- Rat.divInt_mul_divInt,bQ,bQ]
theorem RB.of_divInt{t b:Int}{n:Nat}(h:b≠0)(ht:t.natAbs<2^n)(hb:b.natAbs<2^n):RB n (Rat.divInt t b):=⟨aQ (num_le h) ht,aQ (den_le h) hb⟩
theorem dens_ne(p q:Rat):((p.den:Int)*(q.den:Int))≠0:=by have dp:=den_pos p;have dq:=den_pos q;exact Int.mul_ne_zero zZ zZ
theorem dens_abs(p q:Rat):((p.den:Int)*(q.den:Int)).natAbs=p.den*q.den:=by rw[Int.natAbs_mul,bj,bj]
theorem RB.mul{m n:Nat}{p q:Rat}(hp:RB m p)(hq:RB n q):RB (m+n) (p*q):=by rw[<- mul_eq];exact RB.of_divInt (dens_ne p q) (by rw[Int.natAbs_mul];exact mul_lt_pow hp.1 hq.1) (by rw[dens_abs];exact mul_lt_pow hp.2 hq.2)
structure Ask where
 nm:Str
 one:Nat
 other:Nat
 size:Rat
structure Ring where
 rooms:List Rat
 asks:List Ask
noncomputable def Ring.n(R:Ring):Nat:=R.rooms.length
noncomputable def askD(a:Ask):D:=.tup [.str a.nm,.int a.one,.int a.other,frD a.size]
noncomputable def ringD(R:Ring):D:=.tup [.lst (R.rooms.map frD),.lst (R.asks.map askD)]
structure AskOk (n:Nat) (a:Ask):Prop where
 one:a.one<n
 other:a.other<n
 ne:a.one≠a.other
 size:0<=a.size
 lt:a.size<((2^300:Nat):Rat)
 nm:PyData.strOk a.nm=true
structure Ring.Ok (R:Ring):Prop where
 lo:2<=R.n
 hi:R.n<=12
 few:R.asks.length<=20
 room:∀q∈R.rooms,0<q/\RB 60 q
 ask:∀a∈R.asks,AskOk R.n a
 cd:∃D:Nat,0<D/\D<2^1240/\∀a∈R.asks,a.size.den∣D
theorem okDs_map{α:Type}{n:Nat}{f:α->D}:∀xs:List α,(∀x∈xs,okD n (f x)=true)->okDs n (xs.map f)=true
 |[],_=>rfl
 |x::xs,h=>by simp[okDs,h x ao,okDs_map xs λy hy=>h y (ai _ hy)]
theorem okD_fr(n:Nat)(q:Rat):okD (n+1) (frD q)=true:=by cases n<;>simp[frD,okD,okDs]
theorem shape_frs(qs:List Rat):shapeD (.lst (qs.map frD)):=shape_ok (n:=2) (by simp only[okD];exact okDs_map _ λq _=>okD_fr 0 q) ze
def StOk(xs:List D):Prop:=∃(c sd:Int)(t:Bool),xs=[.int c,.int sd,.bl t]/\0<=sd/\sd<2147483647
theorem low_pair{t b g:Int}(h:b≠0)(e:g=shareOf t b):D.tup [.int (t.fdiv g),.int (b.fdiv g)]=frD (Rat.divInt t b):=by subst e;rw[low_num h,low_den h];rfl
noncomputable def denP(qs:List Rat):Nat:=(qs.map (·.den)).foldr (·*·) 1
noncomputable def sumQ(qs:List Rat):Rat:=qs.foldl (·+·) 0
theorem foldl_add(qs:List Rat):∀acc:Rat,qs.foldl (·+·) acc=acc+sumQ qs:=by
 unfold sumQ
 induction qs with
 |nil=>intro acc;simp[Rat.add_zero]
 |cons q qs ih=>intro acc;rw[List.foldl_cons,List.foldl_cons,ih,ih (0+q),Rat.zero_add,Rat.add_assoc]
theorem sumQ_cons(q:Rat)(qs:List Rat):sumQ (q::qs)=q+sumQ qs:=by show(q::qs).foldl (·+·) 0=_;rw[List.foldl_cons,foldl_add,Rat.zero_add]
theorem opIx_lst{xs:List D}{i:Int}{k:L->Prop}:opIx (.lst xs) (.int i) k=∃v,atI xs i=some v/\k (.d v):=rfl
theorem opIx_tup{xs:List D}{i:Int}{k:L->Prop}:opIx (.tup xs) (.int i) k=∃v,atI xs i=some v/\k (.d v):=rfl
theorem opIx_str{z:Str}{i:Int}{k:L->Prop}:opIx (.str z) (.int i) k=(z.length<=sizeLine/\∃c,atI z.cps.toList i=some c/\k (.d (.str ⟨#[c]⟩))):=rfl
theorem ix_ring0{R:Ring}{k:L->Prop}:opIx (ringD R) (.int 0) k=k (.d (.lst (R.rooms.map frD))):=by show(∃v,atI _ _=some v/\_)=_;simp only[atI_0,aI,ba]
theorem ix_ring1{R:Ring}{k:L->Prop}:opIx (ringD R) (.int 1) k=k (.d (.lst (R.asks.map askD))):=by show(∃v,atI _ _=some v/\_)=_;simp only[atI_1,aI,ba]
theorem ix_ask0{a:Ask}{k:L->Prop}:opIx (askD a) (.int 0) k=k (.d (.str a.nm)):=by show(∃v,atI _ _=some v/\_)=_;simp only[atI_0,aI,ba]
theorem ix_ask1{a:Ask}{k:L->Prop}:opIx (askD a) (.int 1) k=k (.d (.int a.one)):=by show(∃v,atI _ _=some v/\_)=_;simp only[atI_1,aI,ba]
theorem ix_ask2{a:Ask}{k:L->Prop}:opIx (askD a) (.int 2) k=k (.d (.int a.other)):=by show(∃v,atI _ _=some v/\_)=_;simp only[atI_2,aI,ba]
theorem ix_ask3{a:Ask}{k:L->Prop}:opIx (askD a) (.int 3) k=k (.d (frD a.size)):=by show(∃v,atI _ _=some v/\_)=_;simp only[atI_3,aI,ba]
theorem ix_fr0{q:Rat}{k:L->Prop}:opIx (frD q) (.int 0) k=k (.d (.int q.num)):=by show(∃v,atI _ _=some v/\_)=_;simp only[atI_0,aI,ba]
theorem ix_fr1{q:Rat}{k:L->Prop}:opIx (frD q) (.int 1) k=k (.d (.int (q.den:Int))):=by show(∃v,atI _ _=some v/\_)=_;simp only[atI_1,aI,ba]
theorem noL_fr(q:Rat):noL (frD q)=true:=by simp[frD,noL,noLs]
theorem noLs_map{α:Type}{f:α->D}:∀(xs:List α),(∀x∈xs,noL (f x)=true)->noLs (xs.map f)=true
 |[],_=>rfl
 |x::xs,h=>by simp[noLs,h x ao,noLs_map xs λy hy=>h y (ai _ hy)]
theorem noLs_frs(qs:List Rat):noLs (qs.map frD)=true:=noLs_map _ λq _=>noL_fr q
theorem noLs_ints{α:Type}(f:α->Int)(xs:List α):noLs (xs.map λx=>D.int (f x))=true:=noLs_map _ λ_ _=>rfl
theorem rooms_len(R:Ring):R.rooms.length=R.n:=rfl
noncomputable def wayS(w:Bool):Str:=if w then "on" else "back"
theorem shape_on:shapeD (.str "on"):=shape_ok (n:=0) zd ze
theorem shape_back:shapeD (.str "back"):=shape_ok (n:=0) zd ze
theorem shape_way(w:Bool):shapeD (.str (wayS w)):=by
 cases w
 . exact shape_back
 . exact shape_on
theorem way_on(w:Bool):(wayS w="on")=(w=true):=by cases w <;> simp[wayS] <;> decide
theorem way_back(w:Bool):(wayS w="back")=(w=false):=by cases w <;> simp[wayS] <;> decide
theorem tgTup_tup{is:List Nat}{xs:List D}{Z:Ev}{k:Ev->Prop}:tgTup is (.tup xs) Z k=tgNames is xs Z k:=rfl
theorem tgTup_ask{is:List Nat}{a:Ask}{Z:Ev}{k:Ev->Prop}:tgTup is (askD a) Z k=tgNames is [.str a.nm,.int a.one,.int a.other,frD a.size] Z k:=rfl
theorem tgTup_fr{is:List Nat}{q:Rat}{Z:Ev}{k:Ev->Prop}:tgTup is (frD q) Z k=tgNames is [.int q.num,.int (q.den:Int)] Z k:=rfl
theorem itemsOf_lst{xs:List D}{k:List D->Prop}:itemsOf (.lst xs) k=k xs:=rfl
theorem itemsOf_tup{xs:List D}{k:List D->Prop}:itemsOf (.tup xs) k=k xs:=rfl
theorem itemsOf_fr{q:Rat}{k:List D->Prop}:itemsOf (frD q) k=k [.int q.num,.int (q.den:Int)]:=rfl
theorem opLen_lst{xs:List D}{k:L->Prop}:opLen [.lst xs] k=k (.d (.int xs.length)):=rfl
theorem opLen_tup{xs:List D}{k:L->Prop}:opLen [.tup xs] k=k (.d (.int xs.length)):=rfl
theorem opLen_str{x:Str}{k:L->Prop}:opLen [.str x] k=(x.length<=sizeLine/\k (.d (.int x.length))):=rfl
theorem opLen_fr{q:Rat}{k:L->Prop}:opLen [frD q] k=k (.d (.int 2)):=rfl
theorem opLen_ring{R:Ring}{k:L->Prop}:opLen [ringD R] k=k (.d (.int 2)):=rfl
theorem opLen_ask{a:Ask}{k:L->Prop}:opLen [askD a] k=k (.d (.int 4)):=rfl
theorem isTy_tup_fr(q:Rat):isTy "tuple" (frD q)=true:=rfl
theorem isTy_lst_fr(q:Rat):isTy "list" (frD q)=false:=rfl
theorem isTy_int_fr(q:Rat):isTy "int" (frD q)=false:=rfl
theorem isTy_bool_fr(q:Rat):isTy "bool" (frD q)=false:=rfl
theorem isTy_str_fr(q:Rat):isTy "str" (frD q)=false:=rfl
theorem isTy_tup_ring(R:Ring):isTy "tuple" (ringD R)=true:=rfl
noncomputable def frL(n:Nat)(f:Nat->Rat):List D:=(List.range n).map λ(t:Nat)=>frD (f t)
theorem frL_len(n:Nat)(f:Nat->Rat):(frL n f).length=n:=by simp[frL]
theorem frL_map(n:Nat)(f:Nat->Rat):frL n f=((List.range n).map f).map frD:=by unfold frL;rw[cg];rfl
theorem noLs_frL(n:Nat)(f:Nat->Rat):noLs (frL n f)=true:=by rw[frL_map];exact noLs_frs _
noncomputable def cutP(c:Nat×Nat):D:=.tup [.int (c.1:Int),.int (c.2:Int)]
theorem ix_cut0{c:Nat×Nat}{k:L->Prop}:opIx (cutP c) (.int 0) k=k (.d (.int c.1)):=by show(∃v,atI _ _=some v/\_)=_;simp only[atI_0,aI,ba]
theorem ix_cut1{c:Nat×Nat}{k:L->Prop}:opIx (cutP c) (.int 1) k=k (.d (.int c.2)):=by show(∃v,atI _ _=some v/\_)=_;simp only[atI_1,aI,ba]
theorem okD_cut(n:Nat)(c:Nat×Nat):okD (n+1) (cutP c)=true:=by cases n<;>simp[cutP,okD,okDs]
theorem noL_cut(c:Nat×Nat):noL (cutP c)=true:=by simp[cutP,noL,noLs]
theorem shape_cut(c:Nat×Nat):shapeD (cutP c):=shape_ok (okD_cut 0 c) ze
theorem eqD_cut(c d:Nat×Nat):eqD (cutP c) (cutP d)=decide (c=d):=by
 unfold cutP;rw[eqD_tup,eqDs_cons,eqDs_cons,eqDs_nil,eqD_int,eqD_int,Bool.and_true,<- Bool.decide_and,decide_eq_decide];constructor
 . rintro⟨h1,h2⟩;exact Prod.ext zZ zZ
 . rintro rfl;exact⟨rfl,rfl⟩
noncomputable def gP(g:Rat×(Nat×Nat)):D:=.tup [frD g.1,cutP g.2]
theorem ix_g0{g:Rat×(Nat×Nat)}{k:L->Prop}:opIx (gP g) (.int 0) k=k (.d (frD g.1)):=by show(∃v,atI _ _=some v/\_)=_;simp only[atI_0,aI,ba]
theorem ix_g1{g:Rat×(Nat×Nat)}{k:L->Prop}:opIx (gP g) (.int 1) k=k (.d (cutP g.2)):=by show(∃v,atI _ _=some v/\_)=_;simp only[atI_1,aI,ba]
theorem isTy_non(T:String):isTy T .non=(T == "NoneType"):=rfl
theorem isTy_bl(T:String)(b:Bool):isTy T (.bl b)=(T == "bool" ||T == "int"):=rfl
theorem isTy_int(T:String)(i:Int):isTy T (.int i)=(T == "int"):=rfl
theorem isTy_str(T:String)(x:Str):isTy T (.str x)=(T == "str"):=rfl
theorem isTy_tup(T:String)(xs:List D):isTy T (.tup xs)=(T == "tuple"):=rfl
theorem isTy_lst(T:String)(xs:List D):isTy T (.lst xs)=(T == "list"):=rfl
theorem isTy_tup_g(g:Rat×(Nat×Nat)):isTy "tuple" (gP g)=true:=rfl
theorem isTy_tup_cut(c:Nat×Nat):isTy "tuple" (cutP c)=true:=rfl
theorem isTy_tup_ask(a:Ask):isTy "tuple" (askD a)=true:=rfl
theorem opLen_cut{c:Nat×Nat}{k:L->Prop}:opLen [cutP c] k=k (.d (.int 2)):=rfl
theorem opLen_g{c:Rat×(Nat×Nat)}{k:L->Prop}:opLen [gP c] k=k (.d (.int 2)):=rfl
theorem noLs_cuts(cs:List (Nat×Nat)):noLs (cs.map cutP)=true:=noLs_map _ λc _=>noL_cut c
end L2
namespace L2
open PySem PySem.Builtin.Str
theorem slice_from{x:Str}{i:Int}(h0:0<=i)(h2:i<=x.length):(Txt.slice x (some i) none).cps.toList=x.cps.toList.drop i.toNat:=by
 rw[PyProof.Rows.slice_from_eq h0 h2 rfl];have e:x.cps.toList.length=x.length:=by simp[Str.length]
 rw[List.take_of_length_le];rw[bc,e];omega
def LetterC(c:Nat):Prop:=97<=c/\c<=122
structure NmOk (z:Str):Prop where
 lo:1<=z.cps.toList.length
 hi:z.cps.toList.length<=8
 let_:∀c∈z.cps.toList,LetterC c
theorem NmOk.ok{z:Str}(h:NmOk z):PyData.strOk z=true:=by unfold PyData.strOk;rw[<- Array.all_toList,aY];intro c hc;have:=h.let_ c hc;unfold LetterC at this;simp;omega
end L2
namespace L2
open PySem
noncomputable def onL(n i j:Nat):List Nat:=(List.range ((j+n-i) % n)).map λs=>(i+s) % n
noncomputable def backL(n i j:Nat):List Nat:=(List.range ((i+n-j) % n)).map λs=>(i+n-1-s) % n
noncomputable def wayL(n:Nat)(a:Ask)(w:Bool):List Nat:=if w then onL n a.one a.other else backL n a.one a.other
noncomputable def far(n i j:Nat):Nat:=(j+n-i) % n
noncomputable def isOn(n:Nat)(a:Ask)(t:Nat):Bool:=decide (far n a.one t<far n a.one a.other)
theorem RB.sum{b:Nat}:∀(qs:List Rat),(∀q∈qs,RB b q)->RB (1+(b+1)*qs.length) (sumQ qs)
 |[],_=>RB.mono (m:=1) ⟨ze,ze⟩ zZ
 | q::qs,h=>by have ih:=RB.sum qs λz hz=>h z (ai _ hz);rw[sumQ_cons];refine((h q ao).add ih).mono ?_;rw[aX,Nat.mul_succ];omega
noncomputable def sent(n:Nat)(a:Ask)(p:Rat)(t:Nat):Rat:=if isOn n a t then p else a.size-p
noncomputable def loadQ(n:Nat)(as:List Ask)(ps:List Rat)(t:Nat):Rat:=sumQ ((as.zip ps).map λx=>sent n x.1 x.2 t)
noncomputable def within(c:Nat×Nat)(p:Nat):Bool:=decide (c.1<p/\p<=c.2)
noncomputable def apart(c:Nat×Nat)(i j:Nat):Bool:=within c i != within c j
noncomputable def acrossQ(as:List Ask)(c:Nat×Nat):Rat:=sumQ ((as.filter λa=>apart c a.one a.other).map (·.size))
noncomputable def Ring.room(R:Ring)(t:Nat):Rat:=R.rooms.getD t 0
noncomputable def roomsQ(R:Ring)(c:Nat×Nat):Rat:=R.room c.1+R.room c.2
noncomputable def shownQ(R:Ring)(c:Nat×Nat):Rat:=acrossQ R.asks c / roomsQ R c
def IsCut(n:Nat)(c:Nat×Nat):Prop:=c.1<=c.2/\c.2<n
def SumOk(qs:List Rat):Prop:=denP qs<2^9000∨∃D:Nat,0<D/\D<2^4400/\∀q∈qs,q.den∣D
noncomputable def Ring.sz(R:Ring)(k:Nat):Rat:=(R.asks.map (·.size)).getD k 0
end L2
namespace My
open PySem L2
noncomputable def askAt(R:Ring)(j:Nat):Ask:=(R.asks[j]?).getD ⟨"",0,0,0⟩
noncomputable def onA(R:Ring)(j t:Nat):Bool:=isOn R.n (askAt R j) t
noncomputable def dI(R:Ring)(w:Nat->Int)(k g h:Nat):Int:=((List.range (R.asks.length-k)).map λi=>if onA R (k+i) g != onA R (k+i) h then w (k+i)else 0).sum
def CutOk(R:Ring)(w f:Nat->Int)(k:Nat):Prop:=∀g h,g<R.n->h<R.n->dI R w k g h<=f g+f h/\(f g+f h-dI R w k g h) % 2=0
noncomputable def leftF(R:Ring)(w f:Nat->Int)(k:Nat)(p:Int)(t:Nat):Int:=f t-if onA R k t then p else w k-p
noncomputable def mnI(i j:Int):Int:=if j<i then j else i
noncomputable def onT(R:Ring)(k:Nat):List Nat:=(PySem.W.sortI ((wayL R.n (askAt R k) true).map λ(t:Nat)=>(t:Int))).map Int.toNat
noncomputable def valI(R:Ring)(w f:Nat->Int)(k g h:Nat):Int:=f g+f h-dI R w (k+1) g h
noncomputable def innerI(R:Ring)(w f:Nat->Int)(k:Nat)(acc:Int)(g:Nat)(hs:List Nat):Int:=hs.foldl (λt h=>if decide (g<=h)then mnI t (valI R w f k g h)else t) acc
noncomputable def twiceI(R:Ring)(w f:Nat->Int)(k:Nat)(gs:List Nat):Int:=gs.foldl (λt g=>innerI R w f k t g (onT R k)) (2*w k)
noncomputable def partI(R:Ring)(w f:Nat->Int)(k:Nat):Int:=(twiceI R w f k (onT R k)).fdiv 2
noncomputable def fAt(R:Ring)(w f:Nat->Int):Nat->Nat->Int
 |0=>f
 |k+1=>leftF R w (fAt R w f k) k (partI R w (fAt R w f k) k)
noncomputable def pAt(R:Ring)(w f:Nat->Int)(k:Nat):Int:=partI R w (fAt R w f k) k
noncomputable def cbN(qs:List Rat):Nat:=qs.foldl (λb q=>Nat.lcm b q.den) 1
noncomputable def unitI(u:Nat)(q:Rat):Int:=q.num*((u / q.den:Nat):Int)
noncomputable def sizesL(R:Ring):List Rat:=R.asks.map (·.size)
noncomputable def mostL(R:Ring)(q:Rat):List Rat:=R.rooms.map λr=>q*r
noncomputable def cbR(R:Ring)(q:Rat):Nat:=cbN (sizesL R++mostL R q)
noncomputable def unitsN(R:Ring)(q:Rat):Nat:=2*cbR R q
noncomputable def wI(R:Ring)(q:Rat)(j:Nat):Int:=unitI (unitsN R q) (askAt R j).size
noncomputable def f0I(R:Ring)(q:Rat)(t:Nat):Int:=unitI (unitsN R q) (q*R.room t)
noncomputable def pI(R:Ring)(q:Rat)(k:Nat):Int:=pAt R (wI R q) (f0I R q) k
end My
set_option exponentiation.threshold 2000
namespace L2
open PySem
end L2
set_option exponentiation.threshold 5000
namespace My
open PySem L2
structure LB (R:Ring) (ps:List Rat):Prop where
 p:∀p∈ps,RB 4100 p
 ld:∀k t,RB 4100 (loadQ R.n (R.asks.take k) (ps.take k) t)
 st:∀(k:Nat)(h1:k<R.asks.length)(h2:k<ps.length)(t:Nat),RB 4100 (sent R.n R.asks[k] ps[k] t)
 sm:∀t,SumOk ((R.asks.zip ps).map λx=>sent R.n x.1 x.2 t)
theorem LB.all{R:Ring}{ps:List Rat}(h:LB R ps)(hl:ps.length=R.asks.length)(t:Nat):RB 4100 (loadQ R.n R.asks ps t):=by have:=h.ld R.asks.length t;rwa [List.take_of_length_le (ay _),List.take_of_length_le zZ]at this
noncomputable def zI(R:Ring)(q:Rat)(t j:Nat):Int:=if isOn R.n (askAt R j) t then pI R q j else wI R q j-pI R q j
noncomputable def ratB:D->Bool
 |.tup [.int i,.int j]=>decide (1<=j) && decide ((Int.gcd i j:Int)=1)
 |_=>false
theorem ratB_no{d:D}(h:∀i j,d≠.tup [.int i,.int j]):ratB d=false:=by
 unfold ratB;split
 . rename_i i j;exact absurd rfl (h i j)
 . rfl
theorem asc_ok{x:Str}(h:x.cps.all (· < 128)=true):PyData.strOk x=true:=by unfold PyData.strOk;rw[Array.all_eq_true]at h ⊢;intro i hi;have:=h i hi;simp at this ⊢;omega
theorem eqD_nil(ys:List D):eqD (.lst ys) (.lst [])=ys.isEmpty:=by rw[eqD_lst];cases ys<;>rfl
mutual
noncomputable def widD:D->Nat
 |.tup xs=>max xs.length (widDs xs)
 |.lst xs=>max xs.length (widDs xs)
 |_=>0
noncomputable def widDs:List D->Nat
 |[]=>0
 |x::xs=>max (widD x) (widDs xs)
end
theorem widDs_le{n:Nat}:∀{xs:List D},(∀x∈xs,widD x<=n)->widDs xs<=n
 |[],_=>bP _
 | y::ys,h=>by simp only[widDs];have:=h y ao;have:=widDs_le (xs:=ys) λx hx=>h x (ai _ hx);omega
theorem widD_fr(q:Rat):widD (frD q)=2:=by simp[frD,widD,widDs]
theorem widD_ask(a:Ask):widD (askD a)=4:=by have:=widD_fr a.size;simp[askD,widD,widDs,this]
theorem widD_asks{as:List Ask}{n:Nat}(h:as.length<=n)(h2:4<=n):widD (.lst (as.map askD))<=n:=by
 simp only[widD,aC];have:=widDs_le (n:=4) (xs:=as.map askD) λx hx=>by obtain⟨q,_,rfl⟩:=a5.mp hx;rw[widD_ask];exact ay _
 omega
structure SmD (n:Nat) (d:D):Prop where
 dep:depD d<n
 wid:widD d<=99
theorem SmD.mono{n m:Nat}{d:D}(h:SmD n d)(hm:n<=m):SmD m d:=⟨aj h.dep hm,h.wid⟩
theorem depD_fr(q:Rat):depD (frD q)=1:=by simp[frD,depD,depDs]
theorem depD_ask(a:Ask):depD (askD a)=2:=by have:=depD_fr a.size;simp[askD,depD,depDs,this]
theorem depD_lst{xs:List D}{n:Nat}(h:∀x∈xs,depD x<=n):depD (.lst xs)<=n+1:=by simp only[depD];have:=depDs_le h;omega
theorem depD_asks(as:List Ask):depD (.lst (as.map askD))<=3:=depD_lst λx hx=>by obtain⟨q,_,rfl⟩:=a5.mp hx;rw[depD_ask];exact ay _
theorem SmD.asks{as:List Ask}(h:as.length<=99):SmD 4 (.lst (as.map askD)):=⟨by have:=depD_asks as;omega,widD_asks h ze⟩
end My
set_option exponentiation.threshold 5000
namespace My
open PySem L2
noncomputable def wayB:D->Bool
 |.str z=>decide (z=Str.ofString "on") ||decide (z=Str.ofString "back")
 |_=>false
theorem inF_way(z:Str):inF (.str z) [.str (Str.ofString "on"),.str (Str.ofString "back")]=wayB (.str z):=by
 have e1:(Str.ofString "on" == z)=decide (z=Str.ofString "on"):=by rw[bU,b8,decide_eq_true_iff]; exact eq_comm
 have e2:(Str.ofString "back" == z)=decide (z=Str.ofString "back"):=by rw[bU,b8,decide_eq_true_iff]; exact eq_comm
 show(Str.ofString "on" == z ||(Str.ofString "back" == z ||false))=_;rw[e1,e2,bZ];rfl
theorem wayB_way(w:Bool):wayB (.str (wayS w))=true:=by cases w<;>decide +kernel
structure Pt (n:Nat) (d:D):Prop where
 dep:depD d<=n
 wid:widD d<=99
 same:sameOk (20+n) d=true
theorem Pt.int(i:Int):Pt 0 (.int i):=⟨by simp[depD],by simp[widD],by simp[sameOk]⟩
theorem Pt.str(z:Str):Pt 0 (.str z):=⟨by simp[depD],by simp[widD],by simp[sameOk]⟩
end My
set_option exponentiation.threshold 5000
namespace My
open PySem L2 PyProof.Rows
noncomputable def numS(n:Int):Str:=Str.ofString (toString n)
noncomputable def figs(m:Nat):List Nat:=(Nat.toDigits 10 m).map Char.toNat
theorem str_cps{x y:Str}(h:x.cps.toList=y.cps.toList):x=y:=by cases x with|mk a=>cases y with|mk b=>exact ck Str.mk (by simpa using h)
theorem num_pos(m:Nat):(numS (m:Int)).cps.toList=figs m:=PySem.W.KIN.signs_num m
theorem num_neg(m:Nat):(numS (-((m+1:Nat):Int))).cps.toList=45::figs (m+1):=by unfold numS figs;rw[show toString (-((m+1:Nat):Int))="-"++Nat.repr (m+1)from rfl,signs_ofString,String.toList_append,List.map_append,Nat.toList_repr];rfl
theorem fig_dig(m:Nat):NumText.AllDigits (figs m):=λc hc=>by obtain⟨ch,hch,e⟩:=a5.mp hc;rw[<- e];exact digit_range (Nat.isDigit_of_mem_toDigits ze ze hch)
theorem fig_ne(m:Nat):figs m≠[]:=λe=>by have:=Nat.length_toDigits_pos (b:=10) (n:=m);rw[List.map_eq_nil_iff.mp e]at this;cases this
theorem fig_val(m:Nat):NumText.digitsVal (figs m)=m:=PySem.W.KIN.val_back m
theorem fig_len{m k:Nat}(hk:0<k):(figs m).length<=k↔m<10^k:=by unfold figs;rw[aC];exact Nat.length_toDigits_le_iff ze hk
theorem num_cases(n:Int):(∃m:Nat,n=m/\(numS n).cps.toList=figs m)∨∃m:Nat,n=-((m+1:Nat):Int)/\(numS n).cps.toList=45::figs (m+1):=by
 rcases Int.lt_or_le n 0 with h|h
 .
  refine .inr ⟨n.natAbs-1,zZ,?_⟩;have e:n=-((n.natAbs-1+1:Nat):Int):=by omega
  have:=num_neg (n.natAbs-1);rw[<- e]at this;exact this
 . obtain⟨m,rfl⟩:=Int.eq_ofNat_of_zero_le h;exact .inl ⟨m,rfl,num_pos m⟩
theorem len_cps(x:Str):x.length=x.cps.toList.length:=by show x.cps.size=_;simp
theorem num_reads{n:Int}(h:n.natAbs<10^600):intText? (numS n)=some n/\(numS n).length<=640:=by
 rcases num_cases n with⟨m,rfl,e⟩|⟨m,rfl,e⟩
 .
  have l:(figs m).length<=600:=(fig_len ze).mpr zZ;have l':(numS (m:Int)).length<=640:=by rw[len_cps,e];omega
  have:=PySem.intText_digits (x:=numS (m:Int)) (by rw[e];exact fig_dig m) (by rw[e];exact fig_ne m) zZ;rw[e,fig_val]at this;exact⟨this,l'⟩
 .
  have l:(figs (m+1)).length<=600:=(fig_len ze).mpr zZ;have l':(numS (-((m+1:Nat):Int))).length<=640:=by rw[len_cps,e,aX];omega
  have:=PySem.intText_neg (x:=numS (-((m+1:Nat):Int))) e (fig_dig _) (fig_ne _) zZ;rw[fig_val]at this;exact⟨this,l'⟩
noncomputable def wholeQ(x:Str):Option Int:=match intText? x with
 |some n=>if numS n=x/\n.natAbs<10^60 then some n else none
 |none=>none
noncomputable def whD:Option Int->D
 |some n=>.int n
 |none=>.non
theorem wh_num{n:Int}(h:n.natAbs<10^60):wholeQ (numS n)=some n:=by unfold wholeQ;rw[(num_reads (aj h zd)).1];exact if_pos ⟨rfl,h⟩
theorem wh_some{x:Str}{n:Int}(h:wholeQ x=some n):x=numS n/\n.natAbs<10^60:=by
 unfold wholeQ at h
 cases e:intText? x with
 |none=>rw[e]at h;cases h
 | some m =>
  rw[e]at h;dsimp only at h;split at h
  . rename_i c;cases h;exact⟨c.1.symm,c.2⟩
  . cases h
noncomputable def figL(cs:List Nat):List Nat:=if cs.head?=some 45 then cs.tail else cs
theorem fig_head(m:Nat):(figs m).head?≠some 45:=λe=>by have:=fig_dig m 45 (List.mem_of_head? e);omega
theorem figL_num{n:Int}(h:n.natAbs<10^60):NumText.AllDigits (figL (numS n).cps.toList)/\figL (numS n).cps.toList≠[]/\(figL (numS n).cps.toList).length<=60:=by
 rcases num_cases n with⟨m,rfl,e⟩|⟨m,rfl,e⟩
 . rw[e];unfold figL;rw[if_neg (fig_head m)];exact⟨fig_dig m,fig_ne m,(fig_len ze).mpr zZ⟩
 . rw[e];unfold figL;rw[if_pos (show(45::figs (m+1)).head?=some 45 from rfl)];exact⟨fig_dig _,fig_ne _,(fig_len ze).mpr zZ⟩
theorem wh_none{x:Str}(h:¬(NumText.AllDigits (figL x.cps.toList)/\figL x.cps.toList≠[]/\(figL x.cps.toList).length<=60)):wholeQ x=none:=by
 cases e:wholeQ x with
 |none=>rfl
 | some n =>
  obtain⟨rfl,hn⟩:=wh_some e;exact absurd (figL_num hn) h
theorem wh_read{x:Str}(h1:NumText.AllDigits (figL x.cps.toList))(h2:figL x.cps.toList≠[])(h3:(figL x.cps.toList).length<=60) :
  ∃n,intText? x=some n/\x.length<=640/\n.natAbs<10^60/\wholeQ x=if numS n=x then some n else none:=by
 have key:∀n,intText? x=some n->n.natAbs<10^60->wholeQ x=if numS n=x then some n else none:=λn e hn=>by
  unfold wholeQ;rw[e];dsimp only;by_cases c:numS n=x
  . rw[if_pos ⟨c,hn⟩,if_pos c]
  . rw[if_neg (λz=>c z.1),if_neg c]
 have dv:∀cs:List Nat,NumText.AllDigits cs->cs.length<=60->NumText.digitsVal cs<10^60:=by
  have dv':∀cs:List Nat,NumText.AllDigits cs->∀a,cs.foldl (λacc c=>acc*10+(c-48)) a<(a+1)*10^cs.length:=by
   intro cs
   induction cs with
   |nil=>intro _ a;simp
   | cons c cs ih =>
    intro hd a;have h0:=hd c ao;have:=ih (λd h=>hd d (ai _ h)) (a*10+(c-48));rw[List.foldl_cons,aX,Nat.pow_succ];refine aj this ?_;rw[Nat.mul_comm (10^cs.length) 10,<- Nat.mul_assoc];exact Nat.mul_le_mul_right _ zZ
  intro cs h l;have:=dv' cs h 0;rw[Nat.zero_add,Nat.one_mul]at this;exact aj this (aB ze l)
 have hl:x.length<=640:=by
  rw[len_cps];unfold figL at h3;split at h3
  . rw[List.length_tail]at h3;omega
  . omega
 by_cases c:x.cps.toList.head?=some 45
 .
  have e:x.cps.toList=45::figL x.cps.toList:=by
   unfold figL;rw[if_pos c]
   revert c
   cases x.cps.toList with
   |nil=>intro c;cases c
   |cons a cs=>intro c;cases c;rfl
  have r:=intText_neg e h1 h2 zZ;have b:=dv _ h1 h3;exact⟨_,r,hl,zZ,key _ r zZ⟩
 .
  have e:x.cps.toList=figL x.cps.toList:=by unfold figL;rw[if_neg c]
  have r:=intText_digits (x:=x) (by rw[e];exact h1) (by rw[e];exact h2) zZ;have b:=dv _ h1 h3;rw[<- e]at b;exact⟨_,r,hl,zZ,key _ r zZ⟩
theorem st_dash(x:Str):Txt.startswith x (Str.ofString "-")=decide (x.cps.toList.head?=some 45):=by
 have e:Str.ofString "-"=⟨#[45]⟩:=by decide +kernel
 rw[e];obtain⟨⟨l⟩⟩:=x
 cases l with
 |nil=>rfl
 | cons a cs =>
  show(decide (0+1<=(a::cs).length) && ((a::cs).toArray.extract 0 (0+1) == #[45]))=decide (some a=some 45);have h1:decide (0+1<=(a::cs).length)=true:=bD zY;have h2:(a::cs).toArray.extract 0 (0+1)=#[a]:=by simp
  rw[h1,h2,Bool.true_and];by_cases c:a=45
  . subst c;decide
  . rw[bb (by simpa using c)];simp[c]
theorem fig_slice{x:Str}(h:x.cps.toList.head?=some 45):(Txt.slice x (some 1) none).cps.toList=figL x.cps.toList:=by
 have hl:1<=x.cps.toList.length:=by
  revert h
  cases x.cps.toList with
  |nil=>intro h;cases h
  |cons a cs=>intro _;simp
 rw[slice_from ze (by rw[len_cps];omega)];unfold figL;rw[if_pos h];exact List.drop_one
theorem fig_self{x:Str}(h:¬x.cps.toList.head?=some 45):x.cps.toList=figL x.cps.toList:=by unfold figL;rw[if_neg h]
noncomputable def digB(c:Nat):Bool:=strLe (Str.ofString "0") ⟨#[c]⟩ && strLe ⟨#[c]⟩ (Str.ofString "9")
theorem dig_is(c:Nat):digB c=true↔48<=c/\c<=57:=by
 have e0:(Str.ofString "0").cps.toList=[48]:=by decide +kernel
 have e9:(Str.ofString "9").cps.toList=[57]:=by decide +kernel
 have l:∀a b:Nat,([a] < [b])↔a<b:=λa b=>by rw[List.cons_lt_cons_iff];simp
 unfold digB strLe;rw[e0,e9,aL];show(!decide ([c] < [48]))=true/\(!decide ([57] < [c]))=true↔_;rw[Bool.not_eq_true',Bool.not_eq_true',decide_eq_false_iff_not,decide_eq_false_iff_not,l,l];omega
theorem dig_all(cs:List Nat):cs.all digB=true↔NumText.AllDigits cs:=by rw[aY];exact⟨λh c hc=>(dig_is c).mp (h c hc),λh c hc=>(dig_is c).mpr (h c hc)⟩
theorem log60{i:Int}(h:i.natAbs<10^60):i.natAbs.log2<1920:=by
 rcases Nat.eq_zero_or_pos i.natAbs with e|e
 . rw[e];decide
 . exact Nat.lt_trans ((Nat.log2_lt zZ).mpr (Nat.lt_trans h (show 10^60<2^200 by decide))) ze
theorem shape_asc{x:Str}(h:∀c∈x.cps.toList,c<128):shapeD (.str x):=shape_ok (n:=0) (by
 show PyData.strOk x=true;unfold PyData.strOk;simp only[Array.all_eq_true_iff_forall_mem];intro c hc;have:=h c (Array.mem_toList_iff.mpr hc);simp
 omega) ze
theorem spl_ok{x:Str}(h:x.length<=100000):SplOk x (Str.ofString "/"):=by
 have e:sizeLine=16777216:=by decide
 have:=split_le x (Str.ofString "/");exact⟨zd,zZ,zZ⟩
theorem spl_one{x p:Str} (h:Txt.split x (Str.ofString "/")=[p]):x=p:=by have:=StrLaws.join_split x (Str.ofString "/");rw[h]at this;exact this.symm
theorem spl_two{x p q:Str} (h:Txt.split x (Str.ofString "/")=[p,q]):x=p++Str.ofString "/"++q:=by have:=StrLaws.join_split x (Str.ofString "/");rw[h]at this;exact this.symm
theorem join_mem(y:Str):∀(ps:List Str)(p:Str),p∈ps->∀c∈p.cps.toList,c∈(Str.join y ps).cps.toList
 |[],p,hp,c,hc=>by cases hp
 | [q],p,hp,c,hc=>by rw[bB.mp hp]at hc;exact hc
 | q::r::ps,p,hp,c,hc=>by
  show c∈(q.cps++y.cps++(Str.join y (r::ps)).cps).toList;rw[bf,bf];rcases aD.mp hp with rfl|hp
  . exact av _ (av _ hc)
  . exact az _ (join_mem y (r::ps) p hp c hc)
theorem part_asc{x:Str}(h:∀ c∈x.cps.toList,c < 128):∀ p∈Txt.split x (Str.ofString "/"),∀ c∈p.cps.toList,c < 128:=λp hp c hc=>by refine h c ?_;have:=join_mem (Str.ofString "/") _ p hp c hc;rwa [StrLaws.join_split]at this
end My
namespace My
open PySem L2 PySem.Builtin.Str
structure As (n:Nat) (x:Str):Prop where
 len:x.length<=n
 asc:∀c∈x.cps.toList,c<128
theorem As.mono{n m:Nat}{x:Str}(h:As n x)(k:n<=m):As m x:=⟨aG h.len k,h.asc⟩
theorem As.app{n m:Nat}{x y:Str}(h:As n x)(g:As m y):As (n+m) (x++y):=by
 refine⟨by rw[strLen_append];exact Nat.add_le_add h.len g.len,λc hc=>?_⟩;have hc:c∈(x.cps++y.cps).toList:=hc;rw[bf]at hc;rcases aH.mp hc with e|e
 . exact h.asc c e
 . exact g.asc c e
theorem as_con{n:Nat}{x:Str}(h:(decide (x.length<=n) && x.cps.toList.all (· < 128))=true):As n x:=by obtain⟨a,b⟩:=bH.mp h;exact⟨bV a,λc hc=>bV (aY.mp b c hc)⟩
def TS(P:Str->Prop)(t:W L)(Z:Ev):Prop:=∀ag:L->Ev->Prop,(∀x,P x->ag (.d (.str x)) Z)->t Z ag
theorem TS.mono{P Q:Str->Prop}{t:W L}{Z:Ev}(h:TS P t Z)(k:∀x,P x->Q x):TS Q t Z:=λag hp=>h ag λx hx=>hp x (k x hx)
end My
namespace My
open PySem L2 PySem.Builtin PySem.Builtin.Str PySem.StrLaws
def NoSub(y q:List Nat):Prop:=∀k,(q.drop k).take y.length≠y
noncomputable def jn(y:List Nat):List (List Nat)->List Nat
 |[]=>[]
 |[p]=>p
 |p::q::r=>p++y++jn y (q::r)
theorem jn_cons{y p:List Nat}{r:List (List Nat)}(h:r≠[]):jn y (p::r)=p++(y++jn y r):=by
 cases r with
 |nil=>exact absurd rfl h
 |cons q r=>exact bg _ _ _
theorem at_after{α:Type}{p y r:List α}:((p++(y++r)).drop p.length).take y.length=y:=by rw[List.drop_left,List.take_left]
theorem noSub_app{c:Nat}{z p q r s:List Nat}(hc:c∉z)(hp:c∉p)(hq:NoSub (c::z) q)(e:p++(c::z++r)=q++(c::z++s)):p=q/\r=s:=by
 have hl:p.length=q.length:=by
  rcases Nat.lt_trichotomy p.length q.length with l|l|l
  .
   exfalso;by_cases m:p.length+(c::z).length<=q.length
   . refine hq p.length ?_;have:=at_after (p:=p) (y:=c::z) (r:=r);rw[e]at this;rw[List.drop_append_of_le_length zZ,List.take_append_of_le_length (by rw[bc];omega)]at this;exact this
   .
    have e2:(p++(c::z++r))[q.length]?=some c:=by rw[e,aA (ay _),Nat.sub_self];rfl
    rw[aA zZ]at e2;obtain⟨j,hj⟩:∃j,q.length-p.length=j+1:=⟨q.length-p.length-1,zZ⟩;rw[hj,List.cons_append,List.getElem?_cons_succ,aK (by simp at m;omega)]at e2;exact hc (bG e2)
  . exact l
  .
   exfalso;have e2:(q++(c::z++s))[q.length]?=some c:=by rw[aA (ay _),Nat.sub_self];rfl
   rw[<- e,aK l]at e2;exact hp (bG e2)
 obtain⟨e1,e2⟩:=List.append_inj e hl;exact⟨e1,(List.append_inj e2 rfl).2⟩
theorem jn_inj{c:Nat}{z:List Nat}(hc:c∉z):∀(ps qs:List (List Nat)),ps≠[]->qs≠[]->(∀p∈ps,c∉p)->(∀q∈qs,NoSub (c::z) q)->jn (c::z) ps=jn (c::z) qs->ps=qs
 |[],_,h,_,_,_,_=>absurd rfl h
 |_,[],_,h,_,_,_=>absurd rfl h
 |[p],[q],_,_,_,_,e=>by rw[show p=q from e]
 | [p],q::q2::qs,_,_,hp,_,e=>by
  rw[show jn (c::z) [p]=p from rfl,jn_cons (r:=q2::qs) zY]at e;have e2:p[q.length]?=some c:=by rw[show p=_ from e,aA (ay _),Nat.sub_self];rfl
  exact absurd (bG e2) (hp p zY)
 | p::p2::ps,[q],_,_,_,hq,e=>by rw[jn_cons (r:=p2::ps) zY,show jn (c::z) [q]=q from rfl]at e;have:=at_after (p:=p) (y:=c::z) (r:=jn (c::z) (p2::ps));rw[e]at this;exact absurd this (hq q zY p.length)
 | p::p2::ps,q::q2::qs,_,_,hp,hq,e=>by rw[jn_cons (r:=p2::ps) zY,jn_cons (r:=q2::qs) zY]at e;obtain⟨e1,e2⟩:=noSub_app hc (hp p zY) (hq q zY) e;rw[e1,jn_inj hc (p2::ps) (q2::qs) zY zY (λa ha=>hp a (ai _ ha)) (λa ha=>hq a (ai _ ha)) e2]
theorem join_jn(y:Str):∀ps:List Str,(Str.join y ps).cps.toList=jn y.cps.toList (ps.map (·.cps.toList))
 |[]=>rfl
 |[p]=>rfl
 | p::q::r=>by show(p.cps++y.cps++(Str.join y (q::r)).cps).toList=_;rw[bf,bf,join_jn y (q::r)];rfl
theorem sub_noSub{x y:Str}{a b:Nat}(hy:1<=y.length)(hb:b<=x.length)(hn:∀k,a<=k->k<b->¬At x y x.length k):NoSub y.cps.toList (strSub x a b).cps.toList:=by intro k e;rw[strSub_toList]at e;have hl:y.cps.toList.length=y.length:=(len_cps y).symm;have hx:x.cps.toList.length=x.length:=(len_cps x).symm;have af:=ck List.length e;rw[cb,bc,cb,bc]at af;rw[hl,hx]at af;refine hn (a+k) zZ zZ ⟨zZ,?_⟩;rw[subAt_eq];rw[b8,<- e,List.drop_take,List.take_take,List.drop_drop,hl,Nat.min_eq_left zZ]
theorem parts_noSub{x y:Str}(hy:1<=y.length):∀(cuts:List Nat)(a f:Nat),ChainG x y x.length a cuts f->(∀k,f<=k->¬At x y x.length k)->∀p∈partsFrom x y.length a cuts,NoSub y.cps.toList p.cps.toList
 | [],a,f,h,hn,p,hp=>by have e:f=a:=h;subst e;rw[bB.mp hp];exact sub_noSub hy (ay _) λk h1 _=>hn k h1
 | d::r,a,f,h,hn,p,hp=>by
  rcases aD.mp hp with rfl|hp'
  . exact sub_noSub hy (by have:=h.2.1.1;omega) h.2.2.1
  . exact parts_noSub hy r _ f h.2.2.2 hn p hp'
theorem kind_pos(x:Str):1<=Str.strKind x:=by
 unfold Str.strKind;split
 . exact ay _
 . split<;>decide
theorem split_noSub{x y:Str}(hy:1<=y.length)(hk:Str.strKind y=1):∀p∈Txt.split x y,NoSub y.cps.toList p.cps.toList:=by
 obtain⟨f,hG,hn⟩:=occ_tight x y hy;unfold Txt.split;split
 . rename_i hc;intro p hp;rw[bB.mp hp];rw[Bool.or_eq_true,bI,bI]at hc;have:=kind_pos x;intro k e;have af:=ck List.length e;rw[cb,bc,<- len_cps,<- len_cps]at af;omega
 .
  split
  . rename_i he;intro p hp;rw[bB.mp hp];have e0:occurrences x y 0 x.length (x.length+1)=[]:=List.isEmpty_iff.mp he;rw[e0]at hG;have ef:f=0:=hG;subst ef;have:=sub_noSub (x:=x) (a:=0) hy (ay _) λk h1 _=>hn k h1;rwa [sub_whole]at this
  . rw[partsBetween_eq];exact parts_noSub hy _ 0 f hG hn
theorem split_ne(x y:Str):Txt.split x y≠[]:=by
 unfold Txt.split;split
 . simp
 .
  split
  . simp
  . rw[partsBetween_eq];obtain⟨p,r,e⟩:=partsFrom_ne x y.length 0 (occurrences x y 0 x.length (x.length+1));rw[e];simp
structure Sep (y:Str) (c:Nat):Prop where
 z:∃z,y.cps.toList=c::z/\c∉z
 kind:Str.strKind y=1
theorem split_join{y:Str}{c:Nat}(hy:Sep y c){ps:List Str}(h:ps≠[])(hf:∀p∈ps,c∉p.cps.toList):Txt.split (Str.join y ps) y=ps:=by
 obtain⟨z,ez,hz⟩:=hy.z;have hl:1<=y.length:=by rw[len_cps,ez,aX];omega
 have e:=ck (·.cps.toList) (join_split (Str.join y ps) y);rw[join_jn,join_jn y ps,ez]at e
 have key:=jn_inj hz (ps.map (·.cps.toList)) ((Txt.split (Str.join y ps) y).map (·.cps.toList)) (by simpa using h) (by simpa using split_ne _ _) (λp hp=>by
  obtain⟨q,hq,rfl⟩:=a5.mp hp
  exact hf q hq) (λp hp=>by
  obtain⟨q,hq,rfl⟩:=a5.mp hp;have:=split_noSub hl hy.kind q hq
  rwa [ez]at this) e.symm
 refine(List.map_inj_right (λa b hab=>str_cps hab)).mp key.symm
theorem sep_blank:Sep (Str.ofString " ") 32:=⟨⟨[],zd,zY⟩,zd⟩
theorem sep_stroke:Sep (Str.ofString "/") 47:=⟨⟨[],zd,zY⟩,zd⟩
theorem tj(z:Str)(zs:List Str):Txt.join z zs=Str.join z zs:=eq_of_beq (PyProof.Rows.join_plain_closes z zs)
theorem jn_mem{y:List Nat}:∀{ps:List (List Nat)}{c:Nat},c∈jn y ps->c∈y∨∃p∈ps,c∈p
 |[],c,h=>by cases h
 |[p],c,h=>.inr ⟨p,zY,h⟩
 | p::q::r,c,h=>by
  rw[jn_cons zY]at h;rcases aH.mp h with h|h
  . exact .inr ⟨p,zY,h⟩
  .
   rcases aH.mp h with h|h
   . exact .inl h
   .
    rcases jn_mem h with h|⟨a,ha,h⟩
    . exact .inl h
    . exact .inr ⟨a,ai _ ha,h⟩
theorem jn_len{y:List Nat}{n:Nat}:∀{ps:List (List Nat)},(∀p∈ps,p.length<=n)->(jn y ps).length<=(n+y.length)*ps.length
 |[],_=>bP _
 |[p],h=>by have:=h p zY;show p.length<=(n+y.length)*1;omega
 | p::q::r,h=>by have h1:=h p zY;have h2:=jn_len (y:=y) (ps:=q::r) λa ha=>h a (ai _ ha);rw[jn_cons zY,bA,bA,aX (a:=p),Nat.mul_succ];omega
theorem join_as{y:Str}{n m:Nat}{zs:List Str}(hy:As m y)(h:∀z∈zs,As n z):As ((n+m)*zs.length) (Str.join y zs):=by
 constructor
 .
  rw[len_cps,join_jn];have:=jn_len (y:=y.cps.toList) (n:=n) (ps:=zs.map (·.cps.toList)) λp hp=>by obtain⟨z,hz,rfl⟩:=a5.mp hp;rw[<- len_cps];exact(h z hz).len
  rw[aC]at this;refine aG this (Nat.mul_le_mul_right _ ?_);rw[<- len_cps];exact Nat.add_le_add_left hy.len _
 .
  intro c hc;rw[join_jn]at hc;rcases jn_mem hc with h1|⟨p,hp,h1⟩
  . exact hy.asc c h1
  . obtain⟨z,hz,rfl⟩:=a5.mp hp;exact(h z hz).asc c h1
theorem part_as{x y:Str}{n:Nat}(h:As n x):∀p∈Txt.split x y,As n p:=λp hp=>by refine⟨aG (PyProof.Rows.part_short hp) h.len,λc hc=>?_⟩;have:=join_mem y _ p hp c hc;rw[StrLaws.join_split]at this;exact h.asc c this
theorem spl_as{x y:Str}{n:Nat}(h:As n x)(hn:n<=1000000)(hy:(y.length == 0)=false):SplOk x y:=by
 have e:sizeLine=16777216:=by decide
 have:=PyProof.Rows.split_le x y;have:=h.len;exact⟨hy,zZ,zZ⟩
theorem st_ifF{t:W Bool}{a b u:W Fl}{Z:Ev}{ag:Fl->Ev->Prop}(ht:∀k:Bool->Ev->Prop,k false Z->t Z k)(h:wSeq b u Z ag):wSeq (wIf t a b) u Z ag:=ht _ h
theorem st_next{u:W Fl}{Z:Ev}{ag:Fl->Ev->Prop}(h:u Z ag):wSeq wNext u Z ag:=h
end My
set_option exponentiation.threshold 5000
namespace My
open PySem L2
theorem fr_low{t b:Int}(h0:0<b)(g:Int.gcd t b=1):frD (Rat.divInt t b)=D.tup [.int t,.int b]:=by have e:=low_pair (t:=t) (b:=b) (g:=1) zZ (by unfold shareOf;rw[if_neg (by omega),g];rfl);rw[Int.fdiv_one,Int.fdiv_one]at e;exact e.symm
theorem int_mul_divInt(n m b:Int):((n:Int):Rat)*Rat.divInt m b=Rat.divInt (n*m) b:=by have e:((n:Int):Rat)=Rat.divInt n 1:=(bQ (n:Rat)).symm;rw[e,Rat.divInt_mul_divInt,Int.one_mul]
theorem num_big{n m b:Int}(hn:0<=n*m)(h0:0<b)(h9:b<=9)(h:9*10^60<=n*m):10^60<=(((n:Int):Rat)*Rat.divInt m b).num.natAbs:=by
 rw[int_mul_divInt];generalize n*m=a at *;generalize e:Rat.divInt a b=q;have d:(0:Int)<(q.den:Int):=by have:=q.den_pos;omega
 have e2:=e.trans (bQ q).symm;rw[Rat.divInt_eq_divInt_iff zZ zZ]at e2;have h1:a*1<=a*(q.den:Int):=Int.mul_le_mul_of_nonneg_left zZ zZ;rw[e2,Int.mul_one]at h1;have h2:(9*10^60:Int)<=q.num*b:=Int.le_trans h h1
 have hq:0<=q.num:=by
  rcases Int.lt_or_le q.num 0 with c|c
  . have:=Int.mul_neg_of_neg_of_pos c h0;omega
  . exact c
 have h3:q.num*b<=q.num*9:=Int.mul_le_mul_of_nonneg_left h9 hq;have e60:(10:Int)^60=1000000000000000000000000000000000000000000000000000000000000:=by decide
 have e61:(10:Nat)^60=1000000000000000000000000000000000000000000000000000000000000:=by decide
 rw[e60]at h2;rw[e61];omega
theorem long_am{u v:Int}(u0:0<=u)(u1:u<10^9)(v0:0<=v)(v1:v<9):frD (Rat.divInt (10^30+1) (1+v))=.tup [.int (10^30+1),.int (1+v)]/\RB 101 (Rat.divInt (10^30+1) (1+v))/\RB 170 ((1+10^40*(1+u):Int):Rat)/\10^60<=(((1+10^40*(1+u):Int):Rat)*Rat.divInt (10^30+1) (1+v)).num.natAbs:=by
 have e40:(10:Int)^40=10000000000000000000000000000000000000000:=by decide
 have e30:(10:Int)^30=1000000000000000000000000000000:=by decide
 have e9:(10:Int)^9=1000000000:=by decide
 have hg:Int.gcd (10^30+1) (1+v)=1:=by
  have:v=0∨v=1∨v=2∨v=3∨v=4∨v=5∨v=6∨v=7∨v=8:=by omega
  rcases this with rfl|rfl|rfl|rfl|rfl|rfl|rfl|rfl|rfl<;>decide +kernel
 refine⟨fr_low zZ hg,?_,⟨?_,?_⟩,?_⟩
 .
  refine RB.of_divInt zZ ?_ ?_
  . rw[e30];decide
  . exact aQ (show(1+v).natAbs<=9 by omega) ze
 .
  show(1+10^40*(1+u):Int).natAbs<_;rw[e40];have:(2:Nat)^170=1496577676626844588240573268701473812127674924007424:=by decide
  omega
 . show 1<2^170;decide
 .
  have e60:(10:Int)^60=1000000000000000000000000000000000000000000000000000000000000:=by decide
  have hb:9*10^60<=(1+10^40*(1+u))*(10^30+1:Int):=by rw[e40,e30,e60];omega
  exact num_big zZ zZ zZ hb
end My
set_option exponentiation.threshold 1000
namespace Hd
open PySem PySem.W PyProof.Rows
noncomputable abbrev pr:Program:=PySem.Challenge.pw_ringloads_k76_sendings_and_ways_written
noncomputable def top(i:Nat):Stmt:=pr.main.body.getD i (.Pass ⟨0,0,0,0⟩)
noncomputable def inCls(st:Stmt)(j:Nat):Stmt:=match st with
 |.ClassDef _ _ _ b ..=>b.getD j (.Pass ⟨0,0,0,0⟩)
 |_=>.Pass ⟨0,0,0,0⟩
noncomputable def dName(s:Stmt):Str:=match s with
 |.FunctionDef n ..=>n
 |_=>""
noncomputable def dArgs(s:Stmt):Arguments:=match s with
 |.FunctionDef _ a _ _ _ _ _ _ _ _=>a
 |_=>{posonlyargs:=[],args:=[],vararg:=none,kwonlyargs:=[],kw_defaults:=[],kwarg:=none,defaults:=[] }
noncomputable def dBody(s:Stmt):List Stmt:=match s with
 |.FunctionDef _ _ b _ _ _ _ _ _ _=>b
 |_=>[]
noncomputable def dScope(s:Stmt):Scope:=match s with
 |.FunctionDef _ _ _ _ _ _ sc _ _ _=>sc
 |_=>{kind:=.function,names:=[],isGenerator:=false,isCoroutine:=false}
noncomputable def dPos(s:Stmt):Pos:=match s with
 |.FunctionDef _ _ _ _ _ _ _ _ _ p=>p
 |_=>⟨0,0,0,0⟩
noncomputable def fdOf (st:Stmt) (q:Str) (g:Addr) (md cd:Value):FuncData:={ name:=dName st,qualname:=q,params:=dArgs st,body:=.stmts (dBody st),scope:=dScope st,globals:=g,closure:=[],defaults:=.none,kwdefaults:=.none,doc:=.none,pyModule:=md,annotations:=none,code:=cd,closureTuple:=.none,builtins:=0 }
noncomputable def kh(P:Params)(x:Str):Int:=PySem.PyData.keyHash P x
noncomputable def tupO(vs:List Value):Obj:=⟨.type "tuple",none,.seq vs.toArray 0,#[]⟩
noncomputable def fldO(vs:List Value):Obj:=⟨.none,none,.fields vs.toArray,#[]⟩
noncomputable def numb:Nat->List Str->List Value
 |_,[]=>[]
 |t,x::r=>.str x t::numb (t+1) r
noncomputable def codeO(st:Stmt)(a t:Nat)(v1 v2:Value)(tm u:Nat):Obj:=⟨.type "code",none,.fields #[.str (dName st) t,.str (dName st) (t+1),.str "/claim/cut.py" (t+2),.int (dPos st).line 0,.int (dArgs st).args.length 0,.int 0 0,.int 0 0,.int 3 0,.ref a,.bool true,.int 181 0,.ref (a+1),.none,v1,v2,.ref tm,.int u 0,.int (dPos st).line 0,.str "/claim/cut.py" (u+1)],#[]⟩
noncomputable def fnO(st:Stmt)(md:Value)(cd:Nat):Obj:=⟨.type "function",none,.func (fdOf st (dName st) 3 md (.ref cd)),#[]⟩
noncomputable def tmO(st:Stmt):Obj:=⟨.none,none,.func (fdOf st (dName st) 0 .none .none),#[]⟩
noncomputable def fdef7(st:Stmt)(a t:Nat)(vs:List Str)(md:Value):List Obj:=[tupO [],fldO [],tupO (numb (t+3) vs),tupO [],tmO st,codeO st a t (.ref (a+2)) (.ref (a+3)) (a+4) (t+3+vs.length),fnO st md (a+5)]
noncomputable def fdef5(st:Stmt)(a t:Nat)(md:Value):List Obj:=[tupO [],fldO [],tmO st,codeO st a t .none .none (a+2) (t+3),fnO st md (a+3)]
noncomputable def mainD (P:Params) (nm:Value) (es:List DictEntry) (n:Nat):Obj:=⟨.type "dict",none,.dict (([⟨kh P "__name__",.str "__name__" 165,nm⟩,⟨kh P "__doc__",.str "__doc__" 166,.none⟩,⟨kh P "__package__",.str "__package__" 167,.none⟩,⟨kh P "__loader__",.str "__loader__" 168,.builtin "__main__.__loader__#opaque"⟩,⟨kh P "__spec__",.str "__spec__" 169,.none⟩,⟨kh P "__annotations__",.str "__annotations__" 170,.ref 6⟩,⟨kh P "__builtins__",.str "__builtins__" 171,.ref 4⟩,⟨kh P "__file__",.str "__file__" 173,.str "/claim/cut.py" 172⟩,⟨kh P "__cached__",.str "__cached__" 174,.none⟩]:List DictEntry)++es).toArray n,#[]⟩
noncomputable def modO:Obj:=⟨.type "code",none,.fields #[.str "<module>" 182,.str "<module>" 183,.str "/claim/cut.py" 184,.int 1 0,.int 0 0,.int 0 0,.int 0 0,.int 0 0,.ref 11,.bool false,.int 181 0,.ref 12,.none,.none,.none,.none,.int 185 0,.int 1 0,.str "/claim/cut.py" 186],#[]⟩
noncomputable def frmO:Obj:=⟨.type "frame",none,.plain,#[some (.ref 13),some (.ref 3),some (.ref 3),none,some (.str "__main__" 164),none,some (.ref 0)]⟩
noncomputable def bootL(P:Params):List Obj:=[boot_o_0 P,boot_o_1 P,boot_o_2 P,boot_o_3 P,boot_o_4 P,boot_o_5 P,boot_o_6 P,boot_o_7 P,boot_o_8 P,boot_o_9 P,boot_o_10 P,tupO [],fldO [],modO,frmO]
noncomputable def life0:Life:=⟨[],[],[],0,[],[],false,#[],[],0,false,false,false,0,[2000,10,10],false,0,true,[],[],0,false⟩
noncomputable def lookO(l:List (Nat×Obj))(b:Nat):Option Obj:=@List.rec (Nat×Obj) (λ_=>Option Obj) none (λx _ ih=>bif Nat.beq x.1 b then some x.2 else ih) l
noncomputable def obBase(P:Params)(ob:Params->Nat->Obj)(b:Nat):Obj:=bif b.blt 15 then(bootL P).getD b default else ob P b
noncomputable def memN(l:List Nat)(b:Nat):Bool:=@List.rec Nat (λ_=>Bool) false (λx _ ih=>@Bool.rec (λ_=>Bool) ih true (Nat.beq x b)) l
noncomputable def obAt(ks:List Nat)(P:Params)(ov:List (Nat×Obj))(ob:Params->Nat->Obj)(b j:Nat):Obj:=@Bool.rec (λ_=>Obj) (obBase P ob b) ((lookO ov b).getD default) (memN ks b)
noncomputable def L0(n:Nat)(f:Nat->Obj)(a b j:Nat):BT:=.nil
noncomputable def L1(n:Nat)(f:Nat->Obj)(a b j:Nat):BT:=@Bool.rec (λ_=>BT) .nil (.node (f b) (L0 n f (2*a) (a+b) j) (L0 n f (2*a) (2*a+b) j)) (b.blt n)
noncomputable def L2(n:Nat)(f:Nat->Obj)(a b j:Nat):BT:=@Bool.rec (λ_=>BT) .nil (.node (f b) (L1 n f (2*a) (a+b) j) (L1 n f (2*a) (2*a+b) j)) (b.blt n)
noncomputable def L3(n:Nat)(f:Nat->Obj)(a b j:Nat):BT:=@Bool.rec (λ_=>BT) .nil (.node (f b) (L2 n f (2*a) (a+b) j) (L2 n f (2*a) (2*a+b) j)) (b.blt n)
noncomputable def L4(n:Nat)(f:Nat->Obj)(a b j:Nat):BT:=@Bool.rec (λ_=>BT) .nil (.node (f b) (L3 n f (2*a) (a+b) j) (L3 n f (2*a) (2*a+b) j)) (b.blt n)
noncomputable def L5(n:Nat)(f:Nat->Obj)(a b j:Nat):BT:=@Bool.rec (λ_=>BT) .nil (.node (f b) (L4 n f (2*a) (a+b) j) (L4 n f (2*a) (2*a+b) j)) (b.blt n)
noncomputable def L6(n:Nat)(f:Nat->Obj)(a b j:Nat):BT:=@Bool.rec (λ_=>BT) .nil (.node (f b) (L5 n f (2*a) (a+b) j) (L5 n f (2*a) (2*a+b) j)) (b.blt n)
noncomputable def L7(n:Nat)(f:Nat->Obj)(a b j:Nat):BT:=@Bool.rec (λ_=>BT) .nil (.node (f b) (L6 n f (2*a) (a+b) j) (L6 n f (2*a) (2*a+b) j)) (b.blt n)
noncomputable def L8(n:Nat)(f:Nat->Obj)(a b j:Nat):BT:=@Bool.rec (λ_=>BT) .nil (.node (f b) (L7 n f (2*a) (a+b) j) (L7 n f (2*a) (2*a+b) j)) (b.blt n)
noncomputable def L9(n:Nat)(f:Nat->Obj)(a b j:Nat):BT:=@Bool.rec (λ_=>BT) .nil (.node (f b) (L8 n f (2*a) (a+b) j) (L8 n f (2*a) (2*a+b) j)) (b.blt n)
noncomputable def L10(n:Nat)(f:Nat->Obj)(a b j:Nat):BT:=@Bool.rec (λ_=>BT) .nil (.node (f b) (L9 n f (2*a) (a+b) j) (L9 n f (2*a) (2*a+b) j)) (b.blt n)
noncomputable def L11(n:Nat)(f:Nat->Obj)(a b j:Nat):BT:=@Bool.rec (λ_=>BT) .nil (.node (f b) (L10 n f (2*a) (a+b) j) (L10 n f (2*a) (2*a+b) j)) (b.blt n)
noncomputable def L12(n:Nat)(f:Nat->Obj)(a b j:Nat):BT:=@Bool.rec (λ_=>BT) .nil (.node (f b) (L11 n f (2*a) (a+b) j) (L11 n f (2*a) (2*a+b) j)) (b.blt n)
theorem seg_by{p:Program}{w:World}{m:Nat}{ann:Option Value}{b n:Nat}{s:SharedT}{t:Thread}{r:Option (Flow×SharedT×Code×Pos)}(h:Fast.tw10110043849684766642 Fast.tw14364793385576792824 p w m ann b n s t=r):segRunT treeTable p w m ann b n s t=r:=by rw[Fast.te10110043849684766642,bL];exact h
theorem top_by{p:Program}{w:World}{m:Nat}{ann:Option Value}{n:Nat}{s:Shared}{t:Thread}{r:Option Shared}(h:Fast.tw14082659384304107361 Fast.tw14364793385576792824 p w m ann n s t=r):topRun treeTable p w m ann n s t=r:=by rw[Fast.te14082659384304107361,bL];exact h
theorem den_tw:denote treeTable=Fast.tw11892475500146522536 Fast.tw14364793385576792824:=by rw[<- Fast.te11892475500146522536,<- bL]
theorem go_by{p:Program}{w:World}{m:Nat}{ann:Option Value}{n:Nat}{s:Shared}{t:Thread}{r:Option (Shared×Thread)}(h:Fast.tw15667345088766844465 Fast.tw14364793385576792824 p w m ann n s t=r):topGo treeTable p w m ann n s t=r:=by rw[Fast.te15667345088766844465,bL];exact h
theorem rest_eq{b b':List Stmt}(e:b=b'){tb:String->Option Builtin}{p:Program}{w:World}{m:Nat}{ann:Option Value}{n:Nat}{s:Shared}{env:Env}{c:Code}{ps:Pos}{B:List Frame}{r:Option Shared}(h:topRun tb p w m ann n s (restOf b' env c ps B)=r):topRun tb p w m ann n s (restOf b env c ps B)=r:=by rw[e];exact h
noncomputable def f1(P:Params):List Obj:=[(Obj.mk (.type "tuple") none (.seq #[(.type "ValueError")] 0) #[]),
 (Obj.mk (.type "builtin_function_or_method") none (.fields #[(.builtin "type.__prepare__"),(.type "type")]) #[]),
 (Obj.mk (.type "dict") none (.dict #[(DictEntry.mk (kh P "__module__") (.str "__module__" 196) (.str "ringloads.errors" 187)),(DictEntry.mk (kh P "__qualname__") (.str "__qualname__" 198) (.str "LoadError" 197)),(DictEntry.mk (kh P "__firstlineno__") (.str "__firstlineno__" 200) (.int 2 199)),(DictEntry.mk (kh P "__init__") (.str "__init__" 208) (.ref 28)),(DictEntry.mk (kh P "__static_attributes__") (.str "__static_attributes__" 209) (.ref 29))] 5) #[]),
 (Obj.mk (.type "tuple") none (.seq #[] 0) #[]),
 (Obj.mk .none none (.fields #[(.int 4 0),(.int 4 0),(.ref 27)]) #[]),
 (Obj.mk (.type "code") none (.fields #[(.str "LoadError" 191),(.str "LoadError" 192),(.str "/claim/cut.py" 193),(.int 2 0),(.int 0 0),(.int 0 0),(.int 0 0),(.int 0 0),(.ref 18),(.bool false),(.int 181 0),(.ref 19),.none,.none,.none,.none,(.int 194 0),(.int 2 0),(.str "/claim/cut.py" 195)]) #[]),
 (Obj.mk (.type "frame") none .plain #[(some (.ref 20)),(some (.ref 3)),(some (.ref 17)),none,(some (.str "ringloads.errors" 187)),none,(some (.ref 0))]),
 (Obj.mk (.type "tuple") none (.seq #[] 0) #[]),
 (Obj.mk .none none (.fields #[]) #[]),
 (Obj.mk (.type "tuple") none (.seq #[(.str "self" 204),(.str "text" 205)] 0) #[]),
 (Obj.mk (.type "tuple") none (.seq #[] 0) #[]),
 (Obj.mk .none none (.func (fdOf (inCls (top 1) 0) "LoadError.__init__" 0 .none .none)) #[]),
 (Obj.mk (.type "code") none (.fields #[(.str "__init__" 201),(.str "LoadError.__init__" 202),(.str "/claim/cut.py" 203),(.int 4 0),(.int 2 0),(.int 0 0),(.int 0 0),(.int 3 0),(.ref 22),(.bool true),(.int 181 0),(.ref 23),.none,(.ref 24),(.ref 25),(.ref 26),(.int 206 0),(.int 4 0),(.str "/claim/cut.py" 207)]) #[]),
 (Obj.mk (.type "function") none (.func (fdOf (inCls (top 1) 0) "LoadError.__init__" 3 (.str "ringloads.errors" 187) (.ref 27))) #[]),
 (Obj.mk (.type "tuple") none (.seq #[] 0) #[]),
 (Obj.mk (.type "dict") none (.dict #[(DictEntry.mk (kh P "__module__") (.str "__module__" 196) (.str "ringloads.errors" 187)),(DictEntry.mk (kh P "__firstlineno__") (.str "__firstlineno__" 200) (.int 2 199)),(DictEntry.mk (kh P "__init__") (.str "__init__" 208) (.ref 28)),(DictEntry.mk (kh P "__static_attributes__") (.str "__static_attributes__" 209) (.ref 29)),(DictEntry.mk (kh P "__weakref__") (.str "__weakref__" 211) (.ref 32)),(DictEntry.mk (kh P "__doc__") (.str "__doc__" 212) .none)] 3) #[]),
 (Obj.mk (.type "type") none (.cls (PySem.ClassData.mk "LoadError" [(.type "ValueError")] [(.ref 31),(.type "ValueError"),(.type "Exception"),(.type "BaseException"),(.type "object")] 30 "LoadError" true [] [(.ref 51)] false none false)) #[(some (.ref 15)),none,(some (.str "LoadError" 189)),(some (.str "LoadError" 197)),(some (.builtin "ValueError.__new__")),(some (.bool true))]),
 (Obj.mk (.type "getset_descriptor") none (.fields #[(.str "__weakref__" 210),(.ref 31),(.builtin "ExceptionGroup.__weakref__"),.none]) #[]),
 (Obj.mk (.type "super") none (.fields #[(.ref 31),(.ref 31),(.ref 31)]) #[]),
 (Obj.mk (.type "builtin_function_or_method") none (.fields #[(.builtin "object.__init_subclass__"),(.ref 31)]) #[])]
noncomputable def f2(P:Params):List Obj:=[(Obj.mk (.type "tuple") none (.seq #[(.ref 31)] 0) #[]),
 (Obj.mk (.type "builtin_function_or_method") none (.fields #[(.builtin "type.__prepare__"),(.type "type")]) #[]),
 (Obj.mk (.type "dict") none (.dict #[(DictEntry.mk (kh P "__module__") (.str "__module__" 222) (.str "ringloads.errors" 187)),(DictEntry.mk (kh P "__qualname__") (.str "__qualname__" 224) (.str "NoText" 223)),(DictEntry.mk (kh P "__firstlineno__") (.str "__firstlineno__" 226) (.int 6 225)),(DictEntry.mk (kh P "__init__") (.str "__init__" 234) (.ref 48)),(DictEntry.mk (kh P "__static_attributes__") (.str "__static_attributes__" 236) (.ref 49))] 5) #[]),
 (Obj.mk (.type "tuple") none (.seq #[] 0) #[]),
 (Obj.mk .none none (.fields #[(.int 8 0),(.int 4 0),(.ref 47)]) #[]),
 (Obj.mk (.type "code") none (.fields #[(.str "NoText" 217),(.str "NoText" 218),(.str "/claim/cut.py" 219),(.int 6 0),(.int 0 0),(.int 0 0),(.int 0 0),(.int 0 0),(.ref 38),(.bool false),(.int 181 0),(.ref 39),.none,.none,.none,.none,(.int 220 0),(.int 6 0),(.str "/claim/cut.py" 221)]) #[]),
 (Obj.mk (.type "frame") none .plain #[(some (.ref 40)),(some (.ref 3)),(some (.ref 37)),none,(some (.str "ringloads.errors" 187)),none,(some (.ref 0))]),
 (Obj.mk (.type "tuple") none (.seq #[] 0) #[]),
 (Obj.mk .none none (.fields #[]) #[]),
 (Obj.mk (.type "tuple") none (.seq #[(.str "self" 230),(.str "row" 231)] 0) #[]),
 (Obj.mk (.type "tuple") none (.seq #[] 0) #[]),
 (Obj.mk .none none (.func (fdOf (inCls (top 2) 0) "NoText.__init__" 0 .none .none)) #[]),
 (Obj.mk (.type "code") none (.fields #[(.str "__init__" 227),(.str "NoText.__init__" 228),(.str "/claim/cut.py" 229),(.int 8 0),(.int 2 0),(.int 0 0),(.int 0 0),(.int 3 0),(.ref 42),(.bool true),(.int 181 0),(.ref 43),.none,(.ref 44),(.ref 45),(.ref 46),(.int 232 0),(.int 8 0),(.str "/claim/cut.py" 233)]) #[]),
 (Obj.mk (.type "function") none (.func (fdOf (inCls (top 2) 0) "NoText.__init__" 3 (.str "ringloads.errors" 187) (.ref 47))) #[]),
 (Obj.mk (.type "tuple") none (.seq #[(.str "row" 235)] 0) #[]),
 (Obj.mk (.type "dict") none (.dict #[(DictEntry.mk (kh P "__module__") (.str "__module__" 222) (.str "ringloads.errors" 187)),(DictEntry.mk (kh P "__firstlineno__") (.str "__firstlineno__" 226) (.int 6 225)),(DictEntry.mk (kh P "__init__") (.str "__init__" 234) (.ref 48)),(DictEntry.mk (kh P "__static_attributes__") (.str "__static_attributes__" 236) (.ref 49)),(DictEntry.mk (kh P "__doc__") (.str "__doc__" 237) .none)] 2) #[]),
 (Obj.mk (.type "type") none (.cls (PySem.ClassData.mk "NoText" [(.ref 31)] [(.ref 51),(.ref 31),(.type "ValueError"),(.type "Exception"),(.type "BaseException"),(.type "object")] 50 "NoText" true [] [] false none false)) #[(some (.ref 35)),none,(some (.str "NoText" 215)),(some (.str "NoText" 223)),(some (.builtin "ValueError.__new__")),(some (.bool true))]),
 (Obj.mk (.type "super") none (.fields #[(.ref 51),(.ref 51),(.ref 51)]) #[]),
 (Obj.mk (.type "builtin_function_or_method") none (.fields #[(.builtin "object.__init_subclass__"),(.ref 51)]) #[])]
noncomputable def f4(P:Params):List Obj:=fdef7 (top 4) 54 242 ["one","other","rest"] (.str "ringloads.divisors" 240)
noncomputable def f6(P:Params):List Obj:=fdef7 (top 6) 61 253 ["thing"] (.str "ringloads.names" 251)
noncomputable def f7(P:Params):List Obj:=fdef7 (top 7) 68 260 ["thing"] (.str "ringloads.names" 251)
noncomputable def f8(P:Params):List Obj:=fdef7 (top 8) 75 267 ["thing"] (.str "ringloads.names" 251)
noncomputable def f11(P:Params):List Obj:=fdef7 (top 11) 82 278 ["one","top","bottom"] (.str "ringloads.ringtexts" 274)
noncomputable def f12(P:Params):List Obj:=fdef5 (top 12) 89 287 (.str "ringloads.ringtexts" 274)
noncomputable def f13(P:Params):List Obj:=fdef5 (top 13) 94 293 (.str "ringloads.ringtexts" 274)
noncomputable def f15(P:Params):List Obj:=fdef7 (top 15) 99 301 ["top","bottom","shared"] (.str "ringloads.ratios" 299)
noncomputable def f16(P:Params):List Obj:=fdef7 (top 16) 106 310 ["one","other"] (.str "ringloads.ratios" 299)
noncomputable def f20(P:Params):List Obj:=fdef7 (top 20) 113 324 ["thing"] (.str "ringloads.ways" 318)
noncomputable def f24(P:Params):List Obj:=fdef7 (top 24) 120 337 ["words"] (.str "ringloads.papertexts" 331)
noncomputable def f25(P:Params):List Obj:=fdef5 (top 25) 127 344 (.str "ringloads.papertexts" 331)
noncomputable def f26(P:Params):List Obj:=fdef7 (top 26) 132 350 ["ways"] (.str "ringloads.papertexts" 331)
noncomputable def f27(P:Params):List Obj:=fdef7 (top 27) 139 357 ["text"] (.str "ringloads.papertexts" 331)
noncomputable def f28(P:Params):List Obj:=fdef7 (top 28) 146 364 ["text"] (.str "ringloads.papertexts" 331)
noncomputable def f29(P:Params):List Obj:=fdef5 (top 29) 153 371 (.str "ringloads.papertexts" 331)
noncomputable def f30(P:Params):List Obj:=fdef7 (top 30) 158 377 ["text"] (.str "ringloads.papertexts" 331)
noncomputable def f32(P:Params):List Obj:=fdef7 (top 32) 165 386 ["_law_script","_law_k","_law_cell"] (.str "law_ringloads_k76_sendings_and_ways_written" 384)
noncomputable def f33(P:Params):List Obj:=fdef7 (top 33) 172 395 ["_law_state","_law_many","_law_digit","_law_drawn","_law_turn"] (.str "law_ringloads_k76_sendings_and_ways_written" 384)
noncomputable def f34(P:Params):List Obj:=fdef7 (top 34) 179 406 ["_law_top","_law_bottom","_law_one","_law_share"] (.str "law_ringloads_k76_sendings_and_ways_written" 384)
noncomputable def f35(P:Params):List Obj:=fdef7 (top 35) 186 416 ["_law_state","_law_number_here"] (.str "law_ringloads_k76_sendings_and_ways_written" 384)
noncomputable def f36(P:Params):List Obj:=fdef7 (top 36) 193 424 ["_law_one"] (.str "law_ringloads_k76_sendings_and_ways_written" 384)
noncomputable def f37(P:Params):List Obj:=fdef7 (top 37) 200 431 ["_law_state","_law_parts_here","_law_k","_law_top"] (.str "law_ringloads_k76_sendings_and_ways_written" 384)
noncomputable def f38(P:Params):List Obj:=fdef5 (top 38) 207 441 (.str "law_ringloads_k76_sendings_and_ways_written" 384)
noncomputable def f39(P:Params):List Obj:=fdef5 (top 39) 212 447 (.str "law_ringloads_k76_sendings_and_ways_written" 384)
noncomputable def f40(P:Params):List Obj:=fdef7 (top 40) 217 453 ["_law_words"] (.str "law_ringloads_k76_sendings_and_ways_written" 384)
noncomputable def f41(P:Params):List Obj:=fdef5 (top 41) 224 460 (.str "law_ringloads_k76_sendings_and_ways_written" 384)
noncomputable def f42(P:Params):List Obj:=fdef7 (top 42) 229 466 ["_law_ways_here","_law_handed","_law_text_here","_law_told"] (.str "law_ringloads_k76_sendings_and_ways_written" 384)
noncomputable def f43(P:Params):List Obj:=fdef7 (top 43) 236 476 ["_law_state","_law_one","_law_text_here","_law_refused","e"] (.str "law_ringloads_k76_sendings_and_ways_written" 384)
noncomputable def f44(P:Params):List Obj:=fdef5 (top 44) 243 487 (.str "law_ringloads_k76_sendings_and_ways_written" 384)
noncomputable def obl(P:Params)(b:Nat):Obj:=(bif b.blt 94 then(bif b.blt 68 then(bif b.blt 54 then(bif b.blt 35 then(f1 P).getD (b-15) default else(f2 P).getD (b-35) default)else(bif b.blt 61 then(f4 P).getD (b-54) default else(f6 P).getD (b-61) default))else(bif b.blt 82 then(bif b.blt 75 then(f7 P).getD (b-68) default else(f8 P).getD (b-75) default)else(bif b.blt 89 then(f11 P).getD (b-82) default else(f12 P).getD (b-89) default)))else(bif b.blt 120 then(bif b.blt 106 then(bif b.blt 99 then(f13 P).getD (b-94) default else(f15 P).getD (b-99) default)else(bif b.blt 113 then(f16 P).getD (b-106) default else(f20 P).getD (b-113) default))else(bif b.blt 132 then(bif b.blt 127 then(f24 P).getD (b-120) default else(f25 P).getD (b-127) default)else(bif b.blt 139 then(f26 P).getD (b-132) default else(f27 P).getD (b-139) default))))
noncomputable def obr(P:Params)(b:Nat):Obj:=(bif b.blt 200 then(bif b.blt 172 then(bif b.blt 158 then(bif b.blt 153 then(f28 P).getD (b-146) default else(f29 P).getD (b-153) default)else(bif b.blt 165 then(f30 P).getD (b-158) default else(f32 P).getD (b-165) default))else(bif b.blt 186 then(bif b.blt 179 then(f33 P).getD (b-172) default else(f34 P).getD (b-179) default)else(bif b.blt 193 then(f35 P).getD (b-186) default else(f36 P).getD (b-193) default)))else(bif b.blt 224 then(bif b.blt 212 then(bif b.blt 207 then(f37 P).getD (b-200) default else(f38 P).getD (b-207) default)else(bif b.blt 217 then(f39 P).getD (b-212) default else(f40 P).getD (b-217) default))else(bif b.blt 236 then(bif b.blt 229 then(f41 P).getD (b-224) default else(f42 P).getD (b-229) default)else(bif b.blt 243 then(f43 P).getD (b-236) default else(f44 P).getD (b-243) default))))
noncomputable def ob(P:Params)(b:Nat):Obj:=bif b.blt 146 then obl P b else obr P b
noncomputable def ents(P:Params):List DictEntry:=[(DictEntry.mk (kh P "LoadError") (.str "LoadError" 214) (.ref 31)),
 (DictEntry.mk (kh P "NoText") (.str "NoText" 239) (.ref 51)),
 (DictEntry.mk (kh P "greatest_shared") (.str "greatest_shared" 250) (.ref 60)),
 (DictEntry.mk (kh P "is_whole") (.str "is_whole" 259) (.ref 67)),
 (DictEntry.mk (kh P "are_two_wholes") (.str "are_two_wholes" 266) (.ref 74)),
 (DictEntry.mk (kh P "is_ratio") (.str "is_ratio" 273) (.ref 81)),
 (DictEntry.mk (kh P "MOST_FIGURES") (.str "MOST_FIGURES" 277) (.int 60 276)),
 (DictEntry.mk (kh P "shown_ratio") (.str "shown_ratio" 286) (.ref 88)),
 (DictEntry.mk (kh P "whole_in") (.str "whole_in" 292) (.ref 93)),
 (DictEntry.mk (kh P "ratio_in") (.str "ratio_in" 298) (.ref 98)),
 (DictEntry.mk (kh P "lowest") (.str "lowest" 309) (.ref 105)),
 (DictEntry.mk (kh P "times") (.str "times" 317) (.ref 112)),
 (DictEntry.mk (kh P "ON") (.str "ON" 321) (.str "on" 320)),
 (DictEntry.mk (kh P "BACK") (.str "BACK" 323) (.str "back" 322)),
 (DictEntry.mk (kh P "is_way") (.str "is_way" 330) (.ref 119)),
 (DictEntry.mk (kh P "NOTHING") (.str "NOTHING" 334) (.str "-" 333)),
 (DictEntry.mk (kh P "MOST_LISTED") (.str "MOST_LISTED" 336) (.int 20 335)),
 (DictEntry.mk (kh P "shown_words") (.str "shown_words" 343) (.ref 126)),
 (DictEntry.mk (kh P "shown_sending") (.str "shown_sending" 349) (.ref 131)),
 (DictEntry.mk (kh P "shown_ways") (.str "shown_ways" 356) (.ref 138)),
 (DictEntry.mk (kh P "read_sending") (.str "read_sending" 363) (.ref 145)),
 (DictEntry.mk (kh P "read_ways") (.str "read_ways" 370) (.ref 152)),
 (DictEntry.mk (kh P "read_list") (.str "read_list" 376) (.ref 157)),
 (DictEntry.mk (kh P "way_in") (.str "way_in" 383) (.ref 164)),
 (DictEntry.mk (kh P "_law_begun") (.str "_law_begun" 394) (.ref 171)),
 (DictEntry.mk (kh P "_law_take") (.str "_law_take" 405) (.ref 178)),
 (DictEntry.mk (kh P "_law_low") (.str "_law_low" 415) (.ref 185)),
 (DictEntry.mk (kh P "_law_number") (.str "_law_number" 423) (.ref 192)),
 (DictEntry.mk (kh P "_law_ratio") (.str "_law_ratio" 430) (.ref 199)),
 (DictEntry.mk (kh P "_law_parts") (.str "_law_parts" 440) (.ref 206)),
 (DictEntry.mk (kh P "_law_plain") (.str "_law_plain" 446) (.ref 211)),
 (DictEntry.mk (kh P "_law_same") (.str "_law_same" 452) (.ref 216)),
 (DictEntry.mk (kh P "_law_text") (.str "_law_text" 459) (.ref 223)),
 (DictEntry.mk (kh P "_law_sending") (.str "_law_sending" 465) (.ref 228)),
 (DictEntry.mk (kh P "_law_ways") (.str "_law_ways" 475) (.ref 235)),
 (DictEntry.mk (kh P "_law_longer") (.str "_law_longer" 486) (.ref 242)),
 (DictEntry.mk (kh P "law") (.str "law" 492) (.ref 247))]
noncomputable def plc:List Value:=[(.int 2 0),(.int 0 0),(.ref 20),(.int 6 0),(.int 0 0),(.ref 40),(.int 12 0),(.int 0 0),(.ref 59),(.int 19 0),(.int 0 0),(.ref 66),(.int 21 0),(.int 0 0),(.ref 73),(.int 23 0),(.int 0 0),(.ref 80),(.int 27 0),(.int 0 0),(.ref 87),(.int 33 0),(.int 0 0),(.ref 92),(.int 39 0),(.int 0 0),(.ref 97),(.int 45 0),(.int 0 0),(.ref 104),(.int 50 0),(.int 0 0),(.ref 111),(.int 55 0),(.int 0 0),(.ref 118),(.int 60 0),(.int 0 0),(.ref 125),(.int 62 0),(.int 0 0),(.ref 130),(.int 64 0),(.int 0 0),(.ref 137),(.int 66 0),(.int 0 0),(.ref 144),(.int 68 0),(.int 0 0),(.ref 151),(.int 70 0),(.int 0 0),(.ref 156),(.int 79 0),(.int 0 0),(.ref 163),(.int 82 0),(.int 0 0),(.ref 170),(.int 87 0),(.int 0 0),(.ref 177),(.int 98 0),(.int 0 0),(.ref 184),(.int 106 0),(.int 0 0),(.ref 191),(.int 109 0),(.int 0 0),(.ref 198),(.int 113 0),(.int 0 0),(.ref 205),(.int 119 0),(.int 0 0),(.ref 210),(.int 123 0),(.int 0 0),(.ref 215),(.int 125 0),(.int 0 0),(.ref 222),(.int 129 0),(.int 0 0),(.ref 227),(.int 139 0),(.int 0 0),(.ref 234),(.int 149 0),(.int 0 0),(.ref 241),(.int 158 0),(.int 0 0),(.ref 246)]
noncomputable def ov0(P:Params):List (Nat×Obj):=[(12,fldO (plc.take 0))]
noncomputable def T0(P:Params):BT:=L12 15 (λb=>obAt [12] P (ov0 P) ob b 0) 1 0 0
noncomputable abbrev S0(w:World)(os:OsState):SharedT:=⟨T0 w.params,15,life0,#[],⟨0,0,0,0⟩,187,os⟩
noncomputable def ov1(P:Params):List (Nat×Obj):=[(3,mainD P (.str "ringloads.errors" 187) ((ents P).take 1) 10),(12,fldO (plc.take 3)),(31,(Obj.mk (.type "type") none (.cls (PySem.ClassData.mk "LoadError" [(.type "ValueError")] [(.ref 31),(.type "ValueError"),(.type "Exception"),(.type "BaseException"),(.type "object")] 30 "LoadError" true [] [] false none false)) #[(some (.ref 15)),none,(some (.str "LoadError" 189)),(some (.str "LoadError" 197)),(some (.builtin "ValueError.__new__")),(some (.bool true))]))]
noncomputable def T1(P:Params):BT:=L12 35 (λb=>obAt [3,12,31] P (ov1 P) ob b 1) 1 0 1
noncomputable abbrev S1(w:World)(os:OsState):SharedT:=⟨T1 w.params,35,life0,#[],⟨0,0,0,0⟩,215,os⟩
noncomputable def ov2(P:Params):List (Nat×Obj):=[(3,mainD P (.str "ringloads.ringtexts" 274) ((ents P).take 7) 16),(12,fldO (plc.take 18))]
noncomputable def T2(P:Params):BT:=L12 82 (λb=>obAt [3,12] P (ov2 P) ob b 2) 1 0 2
noncomputable abbrev S2(w:World)(os:OsState):SharedT:=⟨T2 w.params,82,life0,#[],⟨0,0,0,0⟩,278,os⟩
noncomputable def ov3(P:Params):List (Nat×Obj):=[(3,mainD P (.str "ringloads.papertexts" 331) ((ents P).take 22) 31),(12,fldO (plc.take 51))]
noncomputable def T3(P:Params):BT:=L12 153 (λb=>obAt [3,12] P (ov3 P) ob b 3) 1 0 3
noncomputable abbrev S3(w:World)(os:OsState):SharedT:=⟨T3 w.params,153,life0,#[],⟨0,0,0,0⟩,371,os⟩
noncomputable def ov4(P:Params):List (Nat×Obj):=[(3,mainD P (.str "law_ringloads_k76_sendings_and_ways_written" 384) ((ents P).take 35) 44),(12,fldO (plc.take 90))]
noncomputable def T4(P:Params):BT:=L12 236 (λb=>obAt [3,12] P (ov4 P) ob b 4) 1 0 4
noncomputable abbrev S4(w:World)(os:OsState):SharedT:=⟨T4 w.params,236,life0,#[],⟨0,0,0,0⟩,476,os⟩
noncomputable def ov5(P:Params):List (Nat×Obj):=[(3,mainD P (.str "law_ringloads_k76_sendings_and_ways_written" 384) ((ents P).take 37) 46),(12,fldO (plc.take 96))]
noncomputable def T5(P:Params):BT:=L12 248 (λb=>obAt [3,12] P (ov5 P) ob b 5) 1 0 5
noncomputable abbrev S5(w:World)(os:OsState):SharedT:=⟨T5 w.params,248,life0,#[],⟨0,0,0,0⟩,493,os⟩
noncomputable abbrev env:Env:={scope:=pr.main.scope,locals:=mainNs,globals:=mainNs,cells:=[],code:=.ref 13,frame:=some 14}
noncomputable abbrev cE:Code:=.body (behindTheImports pr) env
noncomputable abbrev B:List Frame:=[topFrame ⟨0,0,0,0⟩]
noncomputable def sts1:List Stmt:=(pr.main.body.drop 0).take 2
theorem pc1(w:World)(os:OsState):segRunT treeTable pr w 11 (some (.ref 6)) 1 227 (S0 w os) (piecesOf sts1 env cE ⟨0,0,0,0⟩ B)=some (.next,S1 w os,cE,⟨2,0,5,39⟩):=seg_by zb
noncomputable def sts2:List Stmt:=(pr.main.body.drop 2).take 9
theorem pc2(w:World)(os:OsState):segRunT treeTable pr w 11 (some (.ref 6)) 1 400 (S1 w os) (piecesOf sts2 env cE ⟨2,0,5,39⟩ B)=some (.next,S2 w os,cE,⟨26,0,26,12⟩):=seg_by zb
noncomputable def sts3:List Stmt:=(pr.main.body.drop 11).take 18
theorem pc3(w:World)(os:OsState):segRunT treeTable pr w 11 (some (.ref 6)) 1 379 (S2 w os) (piecesOf sts3 env cE ⟨26,0,26,12⟩ B)=some (.next,S3 w os,cE,⟨68,0,69,39⟩):=seg_by zb
noncomputable def sts4:List Stmt:=(pr.main.body.drop 29).take 14
theorem pc4(w:World)(os:OsState):segRunT treeTable pr w 11 (some (.ref 6)) 1 391 (S3 w os) (piecesOf sts4 env cE ⟨68,0,69,39⟩ B)=some (.next,S4 w os,cE,⟨139,0,148,63⟩):=seg_by zb
noncomputable def sts5:List Stmt:=(pr.main.body.drop 43).take 2
theorem pc5(w:World)(os:OsState):segRunT treeTable pr w 11 (some (.ref 6)) 1 60 (S4 w os) (piecesOf sts5 env cE ⟨139,0,148,63⟩ B)=some (.next,S5 w os,cE,⟨158,0,165,89⟩):=seg_by zb
noncomputable abbrev H1(P:Params):Heap:=absHeap (T5 P) 248 life0
theorem pre(w:World)(os:OsState):topGo treeTable pr w 11 (some (.ref 6)) 12 ⟨boot_heap w.params,#[],boot_drawn,boot_toks,os⟩ (topStub pr)=some (⟨⟨⟨bootL w.params⟩,life0⟩,#[],⟨0,0,0,0⟩,187,os⟩,⟨denote treeTable cE,cE,⟨0,0,0,0⟩,B⟩):=by rw[den_tw];exact go_by zb
theorem block(w:World)(os:OsState):segRun treeTable pr w 11 (some (.ref 6)) 1 1 ⟨⟨⟨bootL w.params⟩,life0⟩,#[],⟨0,0,0,0⟩,187,os⟩ (blockOf (behindTheImports pr) env cE ⟨0,0,0,0⟩ B)=some (.next,(S0 w os).abs,cE,⟨0,0,0,0⟩):=by kernel_rfl
theorem fin(w:World)(os:OsState):topRun treeTable pr w 11 (some (.ref 6)) 2 (S5 w os).abs ⟨doneF .next,cE,⟨158,0,165,89⟩,B⟩=some ⟨H1 w.params,#[],⟨0,0,0,0⟩,493,os⟩:=top_by zb
theorem body_eq:behindTheImports pr=(sts1++(sts2++(sts3++(sts4++(sts5++[]))))):=by kernel_rfl
theorem run(w:World)(os:OsState):topRun treeTable pr w 11 (some (.ref 6)) (12+(1+(227+(400+(379+(391+(60+2))))))) ⟨boot_heap w.params,#[],boot_drawn,boot_toks,os⟩ (topStub pr)=some ⟨H1 w.params,#[],⟨0,0,0,0⟩,493,os⟩ :=
 go_top (pre w os) (piece_block (block w os) (rest_eq body_eq (piece_app (segRun_of (pc1 w os)) (piece_app (segRun_of (pc2 w os)) (piece_app (segRun_of (pc3 w os)) (piece_app (segRun_of (pc4 w os)) (piece_app (segRun_of (pc5 w os)) (piece_nil (fin w os)))))))))
noncomputable abbrev q:Program:=view pr [44]
noncomputable def loose:List Str:=(["LoadError","NoText","greatest_shared","is_whole","are_two_wholes","is_ratio","MOST_FIGURES","shown_ratio","whole_in","ratio_in","lowest","times","ON","BACK","is_way","NOTHING","MOST_LISTED","shown_words","shown_sending","shown_ways","read_sending","read_ways","read_list","way_in","_law_begun","_law_take","_law_low","_law_number","_law_ratio","_law_parts","_law_plain","_law_same","_law_text","_law_sending","_law_ways","_law_longer"]:List String).map Str.ofString
noncomputable def Kf(P:Params):Frag:=(3,((ov5 P).getD 0 (0,default)).2)::[(2,boot_o_2 P),(15,(f1 P).getD 0 default),(16,(f1 P).getD 1 default),(17,(f1 P).getD 2 default),(18,(f1 P).getD 3 default),(19,(f1 P).getD 4 default),(20,(f1 P).getD 5 default),(21,(f1 P).getD 6 default),(22,(f1 P).getD 7 default),(23,(f1 P).getD 8 default),(24,(f1 P).getD 9 default),(25,(f1 P).getD 10 default),(26,(f1 P).getD 11 default),(27,(f1 P).getD 12 default),(28,(f1 P).getD 13 default),(29,(f1 P).getD 14 default),(30,(f1 P).getD 15 default),(31,(f1 P).getD 16 default),(32,(f1 P).getD 17 default),(33,(f1 P).getD 18 default),(34,(f1 P).getD 19 default),(35,(f2 P).getD 0 default),(36,(f2 P).getD 1 default),(37,(f2 P).getD 2 default),(38,(f2 P).getD 3 default),(39,(f2 P).getD 4 default),(40,(f2 P).getD 5 default),(41,(f2 P).getD 6 default),(42,(f2 P).getD 7 default),(43,(f2 P).getD 8 default),(44,(f2 P).getD 9 default),(45,(f2 P).getD 10 default),(46,(f2 P).getD 11 default),(47,(f2 P).getD 12 default),(48,(f2 P).getD 13 default),(49,(f2 P).getD 14 default),(50,(f2 P).getD 15 default),(51,(f2 P).getD 16 default),(52,(f2 P).getD 17 default),(53,(f2 P).getD 18 default),(59,(f4 P).getD 5 default),(60,(f4 P).getD 6 default),(66,(f6 P).getD 5 default),(67,(f6 P).getD 6 default),(73,(f7 P).getD 5 default),(74,(f7 P).getD 6 default),(80,(f8 P).getD 5 default),(81,(f8 P).getD 6 default),(87,(f11 P).getD 5 default),(88,(f11 P).getD 6 default),(92,(f12 P).getD 3 default),(93,(f12 P).getD 4 default),(97,(f13 P).getD 3 default),(98,(f13 P).getD 4 default),(104,(f15 P).getD 5 default),(105,(f15 P).getD 6 default),(111,(f16 P).getD 5 default),(112,(f16 P).getD 6 default),(118,(f20 P).getD 5 default),(119,(f20 P).getD 6 default),(125,(f24 P).getD 5 default),(126,(f24 P).getD 6 default),(130,(f25 P).getD 3 default),(131,(f25 P).getD 4 default),(137,(f26 P).getD 5 default),(138,(f26 P).getD 6 default),(144,(f27 P).getD 5 default),(145,(f27 P).getD 6 default),(151,(f28 P).getD 5 default),(152,(f28 P).getD 6 default),(156,(f29 P).getD 3 default),(157,(f29 P).getD 4 default),(163,(f30 P).getD 5 default),(164,(f30 P).getD 6 default),(170,(f32 P).getD 5 default),(171,(f32 P).getD 6 default),(177,(f33 P).getD 5 default),(178,(f33 P).getD 6 default),(184,(f34 P).getD 5 default),(185,(f34 P).getD 6 default),(191,(f35 P).getD 5 default),(192,(f35 P).getD 6 default),(198,(f36 P).getD 5 default),(199,(f36 P).getD 6 default),(205,(f37 P).getD 5 default),(206,(f37 P).getD 6 default),(210,(f38 P).getD 3 default),(211,(f38 P).getD 4 default),(215,(f39 P).getD 3 default),(216,(f39 P).getD 4 default),(222,(f40 P).getD 5 default),(223,(f40 P).getD 6 default),(227,(f41 P).getD 3 default),(228,(f41 P).getD 4 default),(234,(f42 P).getD 5 default),(235,(f42 P).getD 6 default),(241,(f43 P).getD 5 default),(242,(f43 P).getD 6 default),(246,(f44 P).getD 3 default),(247,(f44 P).getD 4 default)]
noncomputable abbrev as:List Addr:=[3,2,15,16,17,18,19,20,21,22,23,24,25,26,27,28,29,30,31,32,33,34,35,36,37,38,39,40,41,42,43,44,45,46,47,48,49,50,51,52,53,59,60,66,67,73,74,80,81,87,88,92,93,97,98,104,105,111,112,118,119,125,126,130,131,137,138,144,145,151,152,156,157,163,164,170,171,177,178,184,185,191,192,198,199,205,206,210,211,215,216,222,223,227,228,234,235,241,242,246,247]
noncomputable abbrev Hk:Hook:=kHook Kf as (λ_=>by kernel_rfl)
noncomputable abbrev Xt:Shared→Bool:=fun s=>xlAt q [] s && recOk (RowW.records PySem.Challenge.rw_ringloads_k76_sendings_and_ways_written.row.toRowW) s
theorem size (w:World):((boot_heap w.params).isNs mainGlobals && (#[]:Array GenState).size == 0,(boot_heap w.params).objs.size,(boot_heap w.params).nsMap mainGlobals "__annotations__")=(true,11,some (.ref 6)):=by kernel_rfl
theorem look1(w:World)(os:OsState):(staticsOk (importedModules pr.main.body) (boot_heap w.params) (H1 w.params) && namesBound pr (H1 w.params) && gensDone ⟨H1 w.params,#[],⟨0,0,0,0⟩,493,os⟩ && laidKept (boot_heap w.params) (H1 w.params))=true:=by kernel_rfl
theorem look2(w:World)(os:OsState):openSeen q loose (importedModules pr.main.body) Xt true ⟨H1 w.params,#[],⟨0,0,0,0⟩,493,os⟩=openGood q loose:=by rw[Fast.te4187177175401517315];kernel_rfl
theorem look3(w:World)(os:OsState):Hk.obs ⟨H1 w.params,#[],⟨0,0,0,0⟩,493,os⟩=Hk.val w:=by kernel_rfl
theorem opened:opening pr=plainProg pr.main.scope.names:=by kernel_rfl
theorem left:LeftO pr q loose Xt Hk.obs Hk.val 3604:=LeftO.of_pieces (M:=(12+(1+(227+(400+(379+(391+(60+2)))))))) (boot_open opened ze (λs=>by kernel_rfl)) size run zd (λw=>funext λos=>looks_pair (look1 w os) (looks_pair (look2 w os) (look3 w os)))
end Hd
namespace My
open PySem L2
local macro_rules | `(tactic| walk_at "w")=>do
 let ids:=("wSplitV strK_s wCallGf gfIs_of datV strAt_s wStarts wSplit wFmt wCat opIntT opStrI datV noLs noL wTryAs wCallX wCallT wRaise opFld fldD isA xflds okX takeW_bx takeW_d tupOf_bx noLr_dic flatL_dic wSrcS signsOf varW_d varW_own varW_bx movW_d movW_own movW_bx selW_own selW_d selW_bx pkW_own pkS_own wTruD trdW_lst pkW_bx pkW_d pkB_own pkB_bx pkB_d fzW_own fzW_d toDB_t toDB_o eraK_nil eraK_cons noLr_un noLr_d noLr_own noLr_bx noLrs_nil noLrs_cons flatL_bx opEqS wChainN wLinks opLe2 wSeq wIf wTest wBin wUn wVar wMove wC wSet wRet wDrop wNext wCall wCallB wCallD aVal aVar aNil toD toDs toInt isBl wTup wLst wNot wAnd wOr wAndV wNotV wIfE wFrz wIsOwn wIxV wSetV wLenV wApp wClear wPeek wPeekB noL noLs flatOwn flatL_un flatL_d flatL_own List.all_cons List.all_nil Bool.and_true Bool.true_and ownV wPar wFor wRng1 wSrc wJoin wChain itemsOf_lst itemsOf_tup itemsOf_fr tgName tgTup_tup tgTup_ask tgTup_fr tgNames opAdd opAddT opSub opMulI opDiv opMod opPow opLt opLe opGt opGe opEq opNe opNeg opIx_lst opIx_tup opIx_str ix_ring0 ix_ring1 ix_ask0 ix_ask1 ix_ask2 ix_ask3 ix_fr0 ix_fr1 ix_cut0 ix_cut1 ix_g0 ix_g1 noL_cut shape_cut eqD_cut eqD_fr shape_fr noL_fr noLs_frs noLs_cuts noLs_ints shape_on shape_back shape_way way_on way_back List.length_map rooms_len opLen_lst opLen_tup opLen_str opLen_fr opLen_ring opLen_ask isTy_tup_fr isTy_lst_fr isTy_int_fr isTy_bool_fr isTy_str_fr isTy_tup_ring noLs_frL frL_len opAbs opMin opMax opInt opList opTuple opIsT isTy_non isTy_bl isTy_int isTy_str isTy_tup isTy_lst isTy_tup_g isTy_tup_cut isTy_tup_ask opLen_cut opLen_g opInF beq_self_eq_true String.reduceBEq String.reduceEq reduceCtorEq wSl2 wPart wComp capsOf putAll unsAt shapeD_int shapeD_bl shapeD_non eqD_int eqD_str eqD_bl List.getElem?_cons_zero List.getElem?_cons_succ List.set_cons_zero List.set_cons_succ List.cons_append List.nil_append List.replicate_succ List.replicate_zero List.map_cons List.map_nil List.drop_succ_cons List.drop_zero Option.getD_some true_and decide_eq_true_eq Bool.not_eq_true' decide_eq_false_iff_not ite_true ite_false Bool.false_eq_true Bool.true_eq_false if_true if_false List.length_cons List.length_nil Nat.reduceAdd Nat.reduceSub atI_0 atI_1 atI_2 atI_3 atI_4 ix30 ix31 ix32 Option.some.injEq exists_eq_left' exists_eq_left".splitOn " ").toArray.map fun s=>Lean.mkIdent ((s.splitOn ".").foldl Lean.Name.mkStr Lean.Name.anonymous)
 `(tactic| try simp only [$[$ids:ident],*])
local macro_rules | `(tactic| walk_at "o")=>`(tactic| first | exact Or.inl rfl | exact Or.inr rfl)
theorem zX{a b:Prop}(h:a∨b:=by walk_at "o"):a∨b:=h
noncomputable abbrev s_greatest_shared:Stmt:=Hd.top 4
noncomputable abbrev N_greatest_shared:List Str:=["one","other","rest"]
noncomputable abbrev s_is_whole:Stmt:=Hd.top 6
noncomputable abbrev N_is_whole:List Str:=["thing"]
noncomputable abbrev s_are_two_wholes:Stmt:=Hd.top 7
noncomputable abbrev N_are_two_wholes:List Str:=["thing"]
noncomputable abbrev s_is_ratio:Stmt:=Hd.top 8
noncomputable abbrev N_is_ratio:List Str:=["thing"]
noncomputable abbrev s_shown_ratio:Stmt:=Hd.top 11
noncomputable abbrev N_shown_ratio:List Str:=["one","top","bottom"]
noncomputable abbrev s_whole_in:Stmt:=Hd.top 12
noncomputable abbrev N_whole_in:List Str:=["text","figures","found"]
noncomputable abbrev s_ratio_in:Stmt:=Hd.top 13
noncomputable abbrev N_ratio_in:List Str:=["text","found"]
noncomputable abbrev s_lowest:Stmt:=Hd.top 15
noncomputable abbrev N_lowest:List Str:=["top","bottom","shared"]
noncomputable abbrev s_times:Stmt:=Hd.top 16
noncomputable abbrev N_times:List Str:=["one","other"]
noncomputable abbrev s_is_way:Stmt:=Hd.top 20
noncomputable abbrev N_is_way:List Str:=["thing"]
noncomputable abbrev s_shown_words:Stmt:=Hd.top 24
noncomputable abbrev N_shown_words:List Str:=["words"]
noncomputable abbrev s_shown_sending:Stmt:=Hd.top 25
noncomputable abbrev N_shown_sending:List Str:=["some"]
noncomputable abbrev s_shown_ways:Stmt:=Hd.top 26
noncomputable abbrev N_shown_ways:List Str:=["ways"]
noncomputable abbrev s_way_in:Stmt:=Hd.top 30
noncomputable abbrev N_way_in:List Str:=["text"]
noncomputable abbrev s_read_list:Stmt:=Hd.top 29
noncomputable abbrev N_read_list:List Str:=["text","between","one_in","found"]
noncomputable abbrev s_read_sending:Stmt:=Hd.top 27
noncomputable abbrev N_read_sending:List Str:=["text"]
noncomputable abbrev s_read_ways:Stmt:=Hd.top 28
noncomputable abbrev N_read_ways:List Str:=["text"]
noncomputable abbrev s__law_begun:Stmt:=Hd.top 32
noncomputable abbrev N__law_begun:List Str:=["_law_script","_law_k","_law_cell"]
noncomputable abbrev s__law_plain:Stmt:=Hd.top 38
noncomputable abbrev N__law_plain:List Str:=["_law_one"]
noncomputable abbrev s__law_same:Stmt:=Hd.top 39
noncomputable abbrev N__law_same:List Str:=["_law_told","_law_due"]
noncomputable abbrev s__law_text:Stmt:=Hd.top 40
noncomputable abbrev N__law_text:List Str:=["_law_words"]
noncomputable abbrev s__law_ratio:Stmt:=Hd.top 36
noncomputable abbrev N__law_ratio:List Str:=["_law_one"]
noncomputable abbrev s__law_sending:Stmt:=Hd.top 41
noncomputable abbrev N__law_sending:List Str:=["_law_parts_here","_law_handed","_law_text_here","_law_told"]
noncomputable abbrev s__law_ways:Stmt:=Hd.top 42
noncomputable abbrev N__law_ways:List Str:=["_law_ways_here","_law_handed","_law_text_here","_law_told"]
noncomputable abbrev s__law_take:Stmt:=Hd.top 33
noncomputable abbrev N__law_take:List Str:=["_law_state","_law_many","_law_digit","_law_drawn","_law_turn"]
noncomputable abbrev s__law_longer:Stmt:=Hd.top 43
noncomputable abbrev N__law_longer:List Str:=["_law_state","_law_one","_law_text_here","_law_refused","e"]
noncomputable abbrev s__law_number:Stmt:=Hd.top 35
noncomputable abbrev N__law_number:List Str:=["_law_state","_law_number_here"]
noncomputable abbrev s__law_low:Stmt:=Hd.top 34
noncomputable abbrev N__law_low:List Str:=["_law_top","_law_bottom","_law_one","_law_share"]
noncomputable abbrev s__law_parts:Stmt:=Hd.top 37
noncomputable abbrev N__law_parts:List Str:=["_law_state","_law_parts_here","_law_k","_law_top"]
noncomputable abbrev s_law:Stmt:=Hd.top 44
noncomputable abbrev N_law:List Str:=["_law_script","_law_at","_law_state"]
def fs_greatest_shared:FS:=λls ag=>∃a b:Int,ls=[.d (.int a),.d (.int b)]/\ag (.d (.int (Int.gcd a b))) ls
def b_greatest_shared_0:W Fl:=(wSeq (wSet 2 (wBin opMod (wVar 0) (wVar 1)))
  (wSeq (wSet 0 (wVar 1))
  (wSet 1 (wVar 2))))
def m_greatest_shared:W Fl:=(wSeq (wWhile (wTest (wBin opNe (wVar 1) (wC (.int 0)))) b_greatest_shared_0)
  (wRet (wCallD opAbs (aVal (wVar 0) aNil))))
theorem sat_greatest_shared:∀ls ag,ls.length=2->fs_greatest_shared ls ag->m_greatest_shared (ls++List.replicate 1 .un) (okEnd ls ag):=by
 rintro ls ag - ⟨a,b,rfl,h⟩;unfold m_greatest_shared;walk_at "w";refine⟨λn Z=>∃x y r,Z=[.d (.int x),.d (.int y),r]/\Int.gcd x y=Int.gcd a b/\n=y.natAbs,⟨_,a,b,_,rfl,rfl,rfl⟩,?_⟩;rintro n Z ⟨x,y,r,rfl,hg,rfl⟩;walk_at "w";split
 .
  rename_i hy;have hy:y≠0:=by simpa using hy
  exact⟨hy,_,natAbs_fmod_lt x hy,y,x.fmod y,_,rfl,by rw[gcd_fmod];exact hg,rfl⟩
 .
  rename_i hy;have hy:y=0:=by simpa using hy
  subst hy;refine⟨_,back_d (back_d back0),?_⟩
  have e:(if x<0 then -x else x)=((Int.gcd a b:Nat):Int):=by rw[<- hg,Int.gcd_zero_right];split<;>omega
  rw[e];exact h
def fs_is_whole:FS:=λls ag=>(∃i:Int,ls=[.d (.int i)]/\ag (.d (.bl true)) ls)∨∃d:D,ls=[.d d]/\(∀i,d≠.int i)/\ag (.d (.bl false)) ls
def m_is_whole:W Fl:=(wRet (wAndV (wUn (opIsT "int") (wVar 0)) (wNotV (wTest (wUn (opIsT "bool") (wVar 0))))))
theorem sat_is_whole:∀ls ag,ls.length=1->fs_is_whole ls ag->m_is_whole (ls++List.replicate 0 .un) (okEnd ls ag):=by
 rintro ls ag-(⟨i,rfl,h⟩|⟨d,rfl,hd,h⟩)
 . unfold m_is_whole;walk_at "w";exact⟨_,back_d back0,h⟩
 .
  unfold m_is_whole
  cases d with
  |int i=>exact absurd rfl (hd i)
  |_=>walk_at "w"; exact⟨_,back_d back0,h⟩
noncomputable def twoB:D->Bool
 |.tup [.int _,.int _]=>true
 |_=>false
def fs_are_two_wholes:FS:=λls ag=>(∃i j:Int,ls=[.d (.tup [.int i,.int j])]/\ag (.d (.bl true)) ls)∨∃d:D,ls=[.d d]/\(∀i j,d≠.tup [.int i,.int j])/\ag (.d (.bl false)) ls
def m_are_two_wholes:W Fl:=(wRet (wAndV (wUn (opIsT "tuple") (wVar 0)) (wAndV (wBin opEq (wCallD opLen (aVal (wVar 0) aNil)) (wC (.int 2))) (wAndV (wCall fs_is_whole (aVal (wBin opIx (wVar 0) (wC (.int 0))) aNil)) (wCall fs_is_whole (aVal (wBin opIx (wVar 0) (wC (.int 1))) aNil))))))
theorem sat_are_two_wholes:∀ls ag,ls.length=1->fs_are_two_wholes ls ag->m_are_two_wholes (ls++List.replicate 0 .un) (okEnd ls ag):=by
 rintro ls ag-(⟨i,j,rfl,h⟩|⟨d,rfl,hd,h⟩)
 . unfold m_are_two_wholes;walk_at "w";refine .inl ⟨_,rfl,?_⟩;walk_at "w";refine .inl ⟨_,rfl,?_⟩;walk_at "w";exact⟨_,back_d back0,h⟩
 .
  unfold m_are_two_wholes;have fin:okEnd [.d d] ag (.rt (.d (.bl false))) [.d d]:=⟨_,back_d back0,h⟩;by_cases ht:∃xs,d=.tup xs
  .
   obtain⟨xs,rfl⟩:=ht;by_cases hl:xs.length=2
   .
    obtain⟨x,y,rfl⟩:∃x y,xs=[x,y]:=by rcases xs with _|⟨x,_|⟨y,_|⟨z,r⟩⟩⟩<;>simp at hl;exact⟨_,_,rfl⟩
    have wh:∀z:D,(∃i,z=.int i)∨(∀i,z≠.int i):=λz=>by cases z<;>simp
    walk_at "w";rcases wh x with⟨i,rfl⟩|hx
    .
     refine .inl ⟨_,rfl,?_⟩;rcases wh y with⟨j,rfl⟩|hy
     . exact absurd rfl (hd i j)
     . walk_at "w";refine .inr ⟨_,rfl,hy,?_⟩;walk_at "w";exact fin
    . refine .inr ⟨_,rfl,hx,?_⟩;walk_at "w";exact fin
   .
    walk_at "w";have e:¬((xs.length:Int)=2):=by omega
    simp only[e,decide_false];exact fin
  .
   have ei:isTy "tuple" d=false:=by
    cases d<;>first
     |exact absurd ⟨_,rfl⟩ ht
     |rfl
   walk_at "w";rw[ei];walk_at "w";exact fin
def fs_is_ratio:FS:=λls ag=>∃d:D,ls=[.d d]/\ag (.d (.bl (ratB d))) ls
def m_is_ratio:W Fl:=(wRet (wAndV (wCall fs_are_two_wholes (aVal (wVar 0) aNil)) (wAndV (wBin opGe (wBin opIx (wVar 0) (wC (.int 1))) (wC (.int 1))) (wBin opEq (wCall fs_greatest_shared (aVal (wBin opIx (wVar 0) (wC (.int 0))) (aVal (wBin opIx (wVar 0) (wC (.int 1))) aNil))) (wC (.int 1))))))
theorem sat_is_ratio:∀ls ag,ls.length=1->fs_is_ratio ls ag->m_is_ratio (ls++List.replicate 0 .un) (okEnd ls ag):=by
 rintro ls ag - ⟨d,rfl,h⟩;by_cases hd:∃i j,d=.tup [.int i,.int j]
 .
  obtain⟨i,j,rfl⟩:=hd;unfold m_is_ratio;walk_at "w";refine .inl ⟨_,_,rfl,?_⟩;walk_at "w";have e:ratB (.tup [.int i,.int j])=(decide (1<=j) && decide ((Int.gcd i j:Int)=1)):=rfl;rw[e]at h;split
  . rename_i hj;refine⟨_,_,rfl,?_⟩;walk_at "w";have hj':(1:Int)<=j:=hj;rw[bD hj',Bool.true_and]at h;exact⟨_,back_d back0,h⟩
  . rename_i hj;have hj':¬(1:Int)<=j:=hj;rw[bb hj',Bool.false_and]at h;exact⟨_,back_d back0,h⟩
 . have hn:∀i j,d≠.tup [.int i,.int j]:=λi j e=>hd ⟨i,j,e⟩;rw[ratB_no hn]at h;unfold m_is_ratio;walk_at "w";refine .inr ⟨_,rfl,hn,?_⟩;walk_at "w";exact⟨_,back_d back0,h⟩
noncomputable def shownS(t b:Int):Str:=if b=1 then numS t else(numS t++"/")++numS b
def fs_shown_ratio:FS:=λls ag=>∃t b:Int,ls=[.d (.tup [.int t,.int b])]/\t.natAbs<2^1900/\b.natAbs<2^1900/\ag (.d (.str (shownS t b))) ls
def m_shown_ratio:W Fl:=(wSeq (wIf (wTest (wBin opEq (wBin opIx (wVar 0) (wC (.int 1))) (wC (.int 1)))) (wRet (wCallD opStrI (aVal (wBin opIx (wVar 0) (wC (.int 0))) aNil))) wNext)
  (wSeq (wSet 1 (wBin opIx (wVar 0) (wC (.int 0))))
  (wSeq (wSet 2 (wBin opIx (wVar 0) (wC (.int 1))))
  (wRet (wCat [(wFmt (wVar 1)),(wC (.str "/")),(wFmt (wVar 2))] Str.empty)))))
theorem log_lt{i:Int}(h:i.natAbs<2^1900):i.natAbs.log2<1920:=by
 rcases Nat.eq_zero_or_pos i.natAbs with e|e
 . rw[e];decide
 . exact Nat.lt_trans ((Nat.log2_lt zZ).mpr h) ze
theorem emp_app(x:Str):Str.empty++x=x:=str_cps (by
 show(#[]++x.cps).toList=x.cps.toList
 simp)
theorem num_len{n:Int}(h:n.natAbs<2^1900):(numS n).length<=601:=by
 have b:n.natAbs<10^600:=aj h zd;rw[len_cps];rcases num_cases n with⟨m,rfl,e⟩|⟨m,rfl,e⟩
 . have l:(figs m).length<=600:=(fig_len ze).mpr zZ;rw[e];omega
 . have l:(figs (m+1)).length<=600:=(fig_len ze).mpr zZ;rw[e,aX];omega
theorem sat_shown_ratio:∀ls ag,ls.length=1->fs_shown_ratio ls ag->m_shown_ratio (ls++List.replicate 2 .un) (okEnd ls ag):=by
 rintro ls ag - ⟨t,b,rfl,ht,hb,h⟩;unfold m_shown_ratio;walk_at "w";have l1:=num_len ht;have l2:=num_len hb;have e:sizeLine=16777216:=by decide
 have l3:(Str.ofString "/").length=1:=by decide +kernel
 by_cases c:b=1
 . rw[if_pos c];unfold shownS at h;rw[if_pos c]at h;exact⟨log_lt ht,_,back_d back0,h⟩
 . rw[if_neg c,emp_app];have a1:=strLen_append (numS t) (Str.ofString "/");have a2:=strLen_append (numS t++Str.ofString "/") (numS b);unfold shownS at h;rw[if_neg c]at h;unfold numS at *;exact⟨log_lt ht,zZ,zZ,log_lt hb,zZ,zZ,_,back_d back0,h⟩
def fs_whole_in:FS:=λls ag=>∃x:Str,ls=[.d (.str x)]/\x.length<=100000/\(∀c∈x.cps.toList,c<128)/\ag (.d (whD (wholeQ x))) ls
def c_whole_in_2:W Fl:=(wRet (wIfE (wTest (wBin opEqS (wCallD opStrI (aVal (wVar 2) aNil)) (wVar 0))) (wVar 2) (wC .non)))
def b_whole_in_0:W L:=(wChainN (wC (.str "0")) [(opLe2,(wVar 0)),(opLe2,(wC (.str "9")))])
def c_whole_in_1:W Fl:=(wSeq (wSet 2 (wFrz (wCallD opIntT (aVal (wVar 0) aNil))))
  c_whole_in_2)
def c_whole_in_0:W Fl:=(wSeq (wIf (wOr (wNot (wTest (wChain opLe opLe (wC (.int 1)) (wCallD opLen (aVal (wVar 1) aNil)) (wC (.int 60))))) (wNot (wTest (wCallD opAll (aVal (wFrz (wComp 1 [] (wSrcS (wVar 1)) (tgName 0) wTrue b_whole_in_0)) aNil))))) (wRet (wC .non)) wNext)
  c_whole_in_1)
def m_whole_in:W Fl:=(wSeq (wSet 1 (wFrz (wIfE (wTest (wStarts (wVar 0) "-")) (wSl2 (wVar 0) (some (wC (.int 1))) none) (wVar 0))))
  c_whole_in_0)
theorem wi_rest{x f:Str}{ag:L->List L->Prop}(hf:f.cps.toList=figL x.cps.toList)(hx:x.length<=100000)(ha:∀c∈x.cps.toList,c<128)(h:ag (.d (whD (wholeQ x))) [.d (.str x)]):c_whole_in_0 [.d (.str x),.d (.str f),.un] (okEnd [.d (.str x)] ag):=by
 have fl:f.length<=100000:=by
  rw[len_cps]at hx;rw[len_cps,hf];unfold figL;split
  . rw[List.length_tail];omega
  . exact hx
 have fa:(f.cps.all λx=>decide (x<128))=true:=by
  rw[<- Array.all_toList,aY];intro c hc;rw[hf]at hc;refine bD (ha c ?_);unfold figL at hc;split at hc
  . exact List.mem_of_mem_tail hc
  . exact hc
 have e1:sizeLine=16777216:=by decide
 have el:=len_cps f;rw[hf]at el;unfold c_whole_in_0;walk_at "w";refine⟨zZ,?_⟩;by_cases c1:1<=(f.length:Int)
 .
  rw[if_pos c1];by_cases c2:(f.length:Int)<=60
  .
   rw[if_neg (λz=>z c2)];refine⟨fa,by unfold signsD;rw[aC,<- len_cps];omega,?_⟩;unfold signsD;refine comp_map (enc:=λc=>D.str ⟨#[c]⟩) (h:=λc=>D.bl (digB c)) _ _ _ (λc hc Q q=>?_) λl'=>?_
   .
    unfold b_whole_in_0;walk_at "w";unfold digB at q
    cases e1:strLe (Str.ofString "0") ⟨#[c]⟩with
    |false=>rw[e1,Bool.false_and]at q;rw[if_neg (by simp)];exact q
    |true=>rw[e1,Bool.true_and]at q;rw[if_pos rfl];exact q
   .
    walk_at "w";intro aa;refine⟨f.cps.toList.map digB,by rw[cg];rfl,?_⟩;have e9:(f.cps.toList.map digB).all id=f.cps.toList.all digB:=by rw[List.all_map];rfl
    rw[e9,hf];dsimp only;by_cases d:(figL x.cps.toList).all digB=true
    .
     rw[if_neg (by rw[d];decide)];obtain⟨n,r1,r2,r3,r4⟩:=wh_read ((dig_all _).mp d) (λz=>by rw[z]at el;simp at el;omega) zZ;rw[r4]at h;unfold c_whole_in_1;walk_at "w";refine⟨n,r2,r1,?_⟩;unfold c_whole_in_2;walk_at "w";refine⟨log60 r3,?_⟩;by_cases g:numS n=x
     . rw[if_pos g]at h;rw[if_pos (show Str.ofString (toString n)=x from g)];exact⟨_,back_d back0,h⟩
     . rw[if_neg g]at h;rw[if_neg (show ¬Str.ofString (toString n)=x from g)];exact⟨_,back_d back0,h⟩
    . rw[if_pos (Bool.eq_false_iff.mpr d)];rw[wh_none (λz=>d ((dig_all _).mpr z.1))]at h;exact⟨_,back_d back0,h⟩
  . rw[if_pos c2];rw[wh_none (λz=>c2 zZ)]at h;exact⟨_,back_d back0,h⟩
 . rw[if_neg c1];rw[wh_none (λz=>z.2.1 (List.eq_nil_of_length_eq_zero zZ))]at h;exact⟨_,back_d back0,h⟩
theorem sat_whole_in:∀ls ag,ls.length=1->fs_whole_in ls ag->m_whole_in (ls++List.replicate 2 .un) (okEnd ls ag):=by
 rintro ls ag - ⟨x,rfl,hx,ha,h⟩;unfold m_whole_in;walk_at "w";rw[st_dash];by_cases c:x.cps.toList.head?=some 45
 .
  rw[if_pos (bD c)];have e:sizeLine=16777216:=by decide
  exact⟨zZ,wi_rest (fig_slice c) hx ha h⟩
 . rw[if_neg (by rw[bb c];decide)];exact wi_rest (fig_self c) hx ha h
noncomputable def ratP:List Str->Option (Int×Int)
 |[p]=>(wholeQ p).map λt=>(t,1)
 | [p,q]=>match wholeQ p,wholeQ q with
  |some t,some b=>if 2<=b/\Int.gcd t b=1 then some (t,b)else none
  |_,_=>none
 |_=>none
noncomputable def ratQ(x:Str):Option (Int×Int):=ratP (Txt.split x (Str.ofString "/"))
noncomputable def ratD:Option (Int×Int)->D
 |some p=>.tup [.int p.1,.int p.2]
 |none=>.non
def fs_ratio_in:FS:=λls ag=>∃ x:Str,ls=[.d (.str x)]/\x.length<=100000/\(∀ c∈x.cps.toList,c < 128)/\(∀ p∈Txt.split x (Str.ofString "/"),∀ c∈p.cps.toList,c < 128)/\ag (.d (ratD (ratQ x))) ls
def c_ratio_in_1:W Fl:=(wRet (wIfE (wAnd (wTest (wCall fs_is_ratio (aVal (wVar 1) aNil))) (wTest (wBin opEq (wCall fs_shown_ratio (aVal (wVar 1) aNil)) (wVar 0)))) (wVar 1) (wC .non)))
def b_ratio_in_0:W L:=(wCall fs_whole_in (aVal (wVar 0) aNil))
def c_ratio_in_0:W Fl:=(wSeq (wIf (wTest (wBin opEq (wCallD opLen (aVal (wVar 1) aNil)) (wC (.int 1)))) (wSet 1 (wFrz (wBin opAddT (wVar 1) (wTup (aVal (wC (.int 1)) aNil))))) wNext)
  c_ratio_in_1)
def m_ratio_in:W Fl:=(wSeq (wSet 1 (wFrz (wCallD opTuple (aVal (wFrz (wComp 1 [] (wSrc (wSplit (wVar 0) "/")) (tgName 0) wTrue b_ratio_in_0)) aNil))))
  c_ratio_in_0)
theorem num_asc(n:Int):∀c∈(numS n).cps.toList,c<128:=by
 intro c hc;rcases num_cases n with⟨m,_,e⟩|⟨m,_,e⟩
 . rw[e]at hc;have:=fig_dig m c hc;omega
 .
  rw[e]at hc;rcases aD.mp hc with rfl|hc
  . decide
  . have:=fig_dig _ c hc;omega
theorem shown_asc(t b:Int):∀c∈(shownS t b).cps.toList,c<128:=by
 unfold shownS;split
 . exact num_asc t
 .
  intro c hc;have e:(Str.ofString "/").cps.toList=[47]:=by decide +kernel
  have hc:c∈((numS t).cps++(Str.ofString "/").cps++(numS b).cps).toList:=hc;rw[bf,bf,e]at hc;rcases aH.mp hc with hc|hc
  .
   rcases aH.mp hc with hc|hc
   . exact num_asc t c hc
   . rw[bB.mp hc];decide
  . exact num_asc b c hc
theorem ri_bad{x:Str}{ds:List D}{ag:L->List L->Prop}(hb:ratB (.tup ds)=false)(h:ag (.d .non) [.d (.str x)]):c_ratio_in_1 [.d (.str x),.d (.tup ds)] (okEnd [.d (.str x)] ag):=by unfold c_ratio_in_1;walk_at "w";refine⟨_,rfl,?_⟩;rw[hb];walk_at "w";exact⟨_,back_d back0,h⟩
theorem ri_good{x:Str}{t b:Int}{ag:L->List L->Prop}(ha:∀c∈x.cps.toList,c<128)(ht:t.natAbs<2^1900)(hb:b.natAbs<2^1900)(hr:ratB (.tup [.int t,.int b])=true)(h1:shownS t b=x->ag (.d (.tup [.int t,.int b])) [.d (.str x)])(h2:shownS t b≠x->ag (.d .non) [.d (.str x)]) :
  c_ratio_in_1 [.d (.str x),.d (.tup [.int t,.int b])] (okEnd [.d (.str x)] ag):=by
 unfold c_ratio_in_1;walk_at "w";refine⟨_,rfl,?_⟩;rw[hr];walk_at "w";refine⟨t,b,rfl,ht,hb,?_⟩;walk_at "w";refine⟨shape_asc (shown_asc t b),shape_asc ha,?_⟩;by_cases c:shownS t b=x
 . rw[if_pos c];exact⟨_,back_d back0,h1 c⟩
 . rw[if_neg c];exact⟨_,back_d back0,h2 c⟩
theorem sat_ratio_in:∀ls ag,ls.length=1->fs_ratio_in ls ag->m_ratio_in (ls++List.replicate 1 .un) (okEnd ls ag):=by
 rintro ls ag - ⟨x,rfl,hx,ha,hp,h⟩;have e1:sizeLine=16777216:=by decide
 unfold m_ratio_in;walk_at "w";refine⟨spl_ok hx,λa=>?_⟩;walk_at "w";have ol:=(spl_ok hx).2.2;refine⟨ol,?_⟩;refine comp_map (enc:=D.str) (h:=λp=>whD (wholeQ p)) _ _ _ (λp hc Q q=>?_) λl'=>?_
 . unfold b_ratio_in_0;walk_at "w";refine⟨p,rfl,aG (PyProof.Rows.part_short hc) hx,hp p hc,?_⟩;walk_at "w";exact q
 .
  intro aa;unfold ratQ at h;generalize hs:Txt.split x (Str.ofString "/")=ps at *;rw[List.nil_append];unfold c_ratio_in_0;walk_at "w";have pz:=PyProof.Rows.split_pos x (Str.ofString "/");rw[hs]at pz;have wb:∀{p:Str}{t:Int},wholeQ p=some t->t.natAbs<2^1900:=λe=>Nat.lt_trans (wh_some e).2 zd
  match ps,hs with
  |[],_=>exact absurd pz ze
  | [p],hs =>
   obtain rfl:=spl_one hs;rw[if_pos (show((([x]:List Str).length:Nat):Int)=1 from rfl)];refine⟨ze,zY,zY,by show 2<=_;decide,?_⟩;have h:ag (.d (ratD ((wholeQ x).map λt=>(t,1)))) [.d (.str x)]:=h
   cases e:wholeQ x with
   | none =>
    rw[e]at h;show c_ratio_in_1 [_,.d (.tup (whD (wholeQ x)::_))] _;rw[e];exact ri_bad rfl h
   | some t =>
    rw[e]at h;show c_ratio_in_1 [_,.d (.tup (whD (wholeQ x)::_))] _;rw[e];refine ri_good ha (wb e) ze ?_ (λ_=>h) λz=>absurd (wh_some e).1.symm ?_
    . unfold ratB;simp
    . unfold shownS at z;rwa [if_pos rfl]at z
  | [p,q],hs =>
   have hxx:=spl_two hs;rw[if_neg (show ¬((([p,q]:List Str).length:Nat):Int)=1 from λz=>by cases z)];show c_ratio_in_1 [_,.d (.tup [whD (wholeQ p),whD (wholeQ q)])] _
   have h:ag (.d (ratD (match wholeQ p,wholeQ q with|some t,some b=>if 2<=b/\Int.gcd t b=1 then some (t,b)else none|_,_=>none))) [.d (.str x)]:=h
   cases e:wholeQ p with
   | none =>
    rw[e]at h;exact ri_bad (ratB_no λi j z=>by cases z) h
   | some t =>
    cases e':wholeQ q with
    | none =>
     rw[e,e']at h;exact ri_bad (ratB_no λi j z=>by cases z) h
    | some b =>
     rw[e,e']at h;dsimp only at h;by_cases c:2<=b/\Int.gcd t b=1
     .
      rw[if_pos c]at h;refine ri_good ha (wb e) (wb e') ?_ (λ_=>h) λz=>absurd ?_ z
      . unfold ratB;simp;omega
      . unfold shownS;rw[if_neg (by omega),hxx,(wh_some e).1,(wh_some e').1]
     .
      rw[if_neg c]at h;by_cases g:ratB (.tup [.int t,.int b])=true
      .
       refine ri_good ha (wb e) (wb e') g (λz=>?_) λ_=>h;have b1:b=1:=by unfold ratB at g;simp at g;omega
       unfold shownS at z;rw[if_pos b1,hxx,(wh_some e).1]at z;have:=ck Str.length z;rw[strLen_append,strLen_append]at this;have l3:(Str.ofString "/").length=1:=by decide +kernel
       omega
      . exact ri_bad (Bool.eq_false_iff.mpr g) h
  | p::q::r::l,hs =>
   rw[if_neg (by simp;omega)];exact ri_bad (ratB_no λi j z=>by have:=ck List.length (D.tup.inj z);simp at this) h
def fs_lowest:FS:=λls ag=>∃t b:Int,ls=[.d (.int t),.d (.int b)]/\b≠0/\b.natAbs<2^9000/\ag (.d (frD (Rat.divInt t b))) ls
def m_lowest:W Fl:=(wSeq (wSet 2 (wFrz (wCall fs_greatest_shared (aVal (wVar 0) (aVal (wVar 1) aNil)))))
  (wSeq (wIf (wTest (wBin opLt (wVar 1) (wC (.int 0)))) (wSet 2 (wUn opNeg (wVar 2))) wNext)
  (wRet (wTup (aVal (wBin opDiv (wVar 0) (wVar 2)) (aVal (wBin opDiv (wVar 1) (wVar 2)) aNil))))))
theorem sat_lowest:∀ls ag,ls.length=2->fs_lowest ls ag->m_lowest (ls++List.replicate 1 .un) (okEnd ls ag):=by
 rintro ls ag - ⟨t,b,rfl,hb,hz,h⟩;unfold m_lowest;walk_at "w";refine⟨t,b,rfl,?_⟩;walk_at "w";have h1:=share_ne (t:=t) hb;have h2:=aQ (share_le (t:=t) hb) hz
 have fin:∀{g:Int}{Z:Ev},g=shareOf t b->g≠0/\g.natAbs<2^9000/\g≠0/\g.natAbs<2^9000/\2<=sizeLine/\okEnd [.d (.int t),.d (.int b)] ag (.rt (.d (.tup [.int (t.fdiv g),.int (b.fdiv g)]))) Z:=λ{g Z} e=>by
  have e1:g≠0:=by rw[e];exact h1
  have e2:g.natAbs<2^9000:=by rw[e];exact h2
  refine⟨e1,e2,e1,e2,ze,_,back_d (back_d back0),?_⟩;rw[low_pair hb e];exact h
 split
 . rename_i hlt;exact fin (by simp[shareOf,hlt])
 . rename_i hlt;exact fin (by simp[shareOf,hlt])
def fs_times:FS:=λls ag=>∃p q:Rat,ls=[.d (frD p),.d (frD q)]/\RB 4400 p/\RB 4400 q/\ag (.d (frD (p*q))) ls
def m_times:W Fl:=(wRet (wCall fs_lowest (aVal (wFrz (wBin opMulI (wBin opIx (wVar 0) (wC (.int 0))) (wBin opIx (wVar 1) (wC (.int 0))))) (aVal (wFrz (wBin opMulI (wBin opIx (wVar 0) (wC (.int 1))) (wBin opIx (wVar 1) (wC (.int 1))))) aNil))))
theorem sat_times:∀ls ag,ls.length=2->fs_times ls ag->m_times (ls++List.replicate 0 .un) (okEnd ls ag):=by
 rintro ls ag - ⟨p,q,rfl,hp,hq,h⟩;unfold m_times;walk_at "w";refine⟨hp.bn ze,hq.bn ze,hp.bd ze,hq.bd ze,_,_,rfl,dens_ne p q,?_,_,back_d (back_d back0),?_⟩
 . rw[dens_abs];exact aj (mul_lt_pow hp.2 hq.2) (aB ze ze)
 . rw[mul_eq];exact h
def fs_is_way:FS:=λls ag=>∃d:D,ls=[.d d]/\ag (.d (.bl (wayB d))) ls
def m_is_way:W Fl:=(wRet (wAndV (wUn (opIsT "str") (wVar 0)) (wBin (opInF false) (wVar 0) (wTup (aVal (wC (.str "on")) (aVal (wC (.str "back")) aNil))))))
theorem sat_is_way:∀ls ag,ls.length=1->fs_is_way ls ag->m_is_way (ls++List.replicate 0 .un) (okEnd ls ag):=by
 rintro ls ag - ⟨d,rfl,h⟩;unfold m_is_way
 cases d with
 | str z =>
  walk_at "w";rw[inF_way];exact⟨ze,rfl,rfl,_,back_d back0,h⟩
 | _ =>
  walk_at "w";exact⟨_,back_d back0,h⟩
noncomputable def wrS(zs:List Str):Str:=if zs=[]then Str.ofString "-" else Str.join (Str.ofString " ") zs
def fs_shown_words:FS:=λls ag=>∃zs:List Str,ls=[.d (.lst (zs.map .str))]/\zs.length<=20/\(∀z∈zs,As 203 z)/\ag (.d (.str (wrS zs))) ls
def m_shown_words:W Fl:=(wRet (wIfE (wTruD 0) (wJoin " " (wVar 0)) (wC (.str "-"))))
theorem sum_wd{zs:List Str}{n m:Nat}(h:∀z∈zs,As n z)(hm:(n+m)*zs.length<=16777216):(zs.map (·.length)).sum+zs.length*m<=16777216:=by
 refine aG ?_ hm;rw[Nat.add_mul,Nat.mul_comm m];refine Nat.add_le_add_right ?_ _;clear hm
 induction zs with
 |nil=>exact bP _
 | cons z zs ih =>
  have h1:=(h z zY).len;have h2:=ih λa ha=>h a (ai _ ha);rw[a8,List.sum_cons,aX,Nat.mul_succ];omega
theorem wrS_as{zs:List Str}(hl:zs.length<=20)(h:∀z∈zs,As 203 z):As 100000 (wrS zs):=by
 unfold wrS;split
 . exact as_con zd
 . refine(join_as (m:=1) (as_con zd) h).mono ?_;omega
theorem sat_shown_words:∀ls ag,ls.length=1->fs_shown_words ls ag->m_shown_words (ls++List.replicate 0 .un) (okEnd ls ag):=by
 rintro ls ag - ⟨zs,rfl,hl,hz,h⟩;unfold m_shown_words;walk_at "w";unfold wrS at h;by_cases c:zs=[]
 . subst c;rw[if_pos rfl]at h;walk_at "w";exact⟨_,back_d back0,h⟩
 .
  have ne:(zs.map D.str).isEmpty=false:=by
   cases zs with
   |nil=>exact absurd rfl c
   |cons a b=>rfl
  rw[if_neg c]at h;rw[ne];walk_at "w";refine⟨zs,rfl,sum_wd (m:=1) hz zZ,?_⟩;rw[tj];exact⟨_,back_d back0,h⟩
noncomputable def shQ(q:Rat):Str:=shownS q.num q.den
def fs_shown_sending:FS:=λls ag=>∃qs:List Rat,ls=[.d (.lst (qs.map frD))]/\qs.length<=20/\(∀q∈qs,RB 300 q)/\ag (.d (.str (wrS (qs.map shQ)))) ls
def b_shown_sending_0:W L:=(wCall fs_shown_ratio (aVal (wVar 0) aNil))
def m_shown_sending:W Fl:=(wRet (wCall fs_shown_words (aVal (wFrz (wComp 1 [] (wSrc (wVar 0)) (tgName 0) wTrue b_shown_sending_0)) aNil)))
theorem num_len3{n:Int}(h:n.natAbs<2^300):(numS n).length<=101:=by
 have b:n.natAbs<10^100:=aj h zd;rw[len_cps];rcases num_cases n with⟨m,rfl,e⟩|⟨m,rfl,e⟩
 . have l:(figs m).length<=100:=(fig_len ze).mpr zZ;rw[e];omega
 . have l:(figs (m+1)).length<=100:=(fig_len ze).mpr zZ;rw[e,aX];omega
theorem num_as{n:Int}(h:n.natAbs<2^300):As 101 (numS n):=⟨num_len3 h,λc hc=>by
 rcases num_cases n with⟨m,_,e⟩|⟨m,_,e⟩
 . rw[e]at hc;have:=fig_dig m c hc;omega
 .
  rw[e]at hc;rcases aD.mp hc with rfl|hc
  . decide
  .
   have:=fig_dig _ c hc
   omega⟩
theorem shown_as{t b:Int}(ht:t.natAbs<2^300)(hb:b.natAbs<2^300):As 203 (shownS t b):=by
 unfold shownS;split
 . exact(num_as ht).mono ze
 . exact(((num_as ht).app (as_con (n:=1) zd)).app (num_as hb)).mono ze
theorem num_sign{n:Int}{c:Nat}(h:c∈(numS n).cps.toList):c=45∨48<=c/\c<=57:=by
 rcases num_cases n with⟨m,_,e⟩|⟨m,_,e⟩
 . rw[e]at h;exact .inr (fig_dig m c h)
 .
  rw[e]at h;rcases aD.mp h with rfl|h
  . exact .inl rfl
  . exact .inr (fig_dig _ c h)
theorem shown_sign{t b:Int}{c:Nat}(h:c∈(shownS t b).cps.toList):c=45∨47<=c/\c<=57:=by
 unfold shownS at h;split at h
 . rcases num_sign h with h|h<;>omega
 .
  have h:c∈((numS t).cps++(Str.ofString "/").cps++(numS b).cps).toList:=h;rw[bf,bf]at h;rcases aH.mp h with h|h
  .
   rcases aH.mp h with h|h
   . rcases num_sign h with h|h<;>omega
   .
    have:c=47:=by
     have e:(Str.ofString "/").cps.toList=[47]:=by decide +kernel
     rw[e]at h;exact bB.mp h
    omega
  . rcases num_sign h with h|h<;>omega
theorem way_as(w:Bool):As 4 (wayS w):=by cases w<;>exact as_con zd
theorem way_sign{w:Bool}{c:Nat}(h:c∈(wayS w).cps.toList):97<=c/\c<=122:=by
 have key:∀w,(wayS w).cps.toList.all (λc=>decide (97<=c/\c<=122))=true:=by intro w;cases w<;>decide +kernel
 exact bV (aY.mp (key w) c h)
theorem am_t{q:Rat}(h:RB 300 q):q.num.natAbs<2^1900:=aj h.1 (aB ze ze)
theorem am_b{q:Rat}(h:RB 300 q):(q.den:Int).natAbs<2^1900:=aj h.2 (aB ze ze)
theorem num_split(n:Int):Txt.split (numS n) (Str.ofString "/")=[numS n]:=split_join (ps:=[numS n]) sep_stroke zY λp hp h=>by rw[bB.mp hp]at h;rcases num_sign h with h|h<;>omega
theorem two_split(a b:Int):Txt.split (numS a++Str.ofString "/"++numS b) (Str.ofString "/")=[numS a,numS b]:=split_join (ps:=[numS a,numS b]) sep_stroke zY λp hp h=>by
 simp only[aD,List.not_mem_nil,or_false]at hp;rcases hp with rfl|rfl
 . rcases num_sign h with h|h<;>omega
 . rcases num_sign h with h|h<;>omega
theorem rat_back{q:Rat}(ht:q.num.natAbs<10^60)(hb:q.den<10^60):ratQ (shownS q.num q.den)=some (q.num,(q.den:Int)):=by
 unfold ratQ shownS;split
 . rename_i c;rw[num_split];show(wholeQ (numS q.num)).map (λt=>(t,(1:Int)))=_;rw[wh_num ht,c];rfl
 .
  rename_i c;rw[two_split]
  show(match wholeQ (numS q.num),wholeQ (numS (q.den:Int))with|some t,some b=>if 2<=b/\Int.gcd t b=1 then some (t,b)else none|_,_=>none)=_
  rw[wh_num ht,wh_num (n:=(q.den:Int)) (by rw[bj];exact hb)];dsimp only;have:=q.den_pos;have r:Int.gcd q.num (q.den:Int)=1:=by show q.num.natAbs.gcd (q.den:Int).natAbs=1;rw[bj];exact q.reduced
  rw[if_pos ⟨zZ,r⟩]
theorem num_inj{m n:Int}(hm:m.natAbs<10^600)(hn:n.natAbs<10^600)(h:numS m=numS n):m=n:=by have h1:=(num_reads hm).1;rw[h,(num_reads hn).1]at h1;exact(aW h1).symm
theorem wh_long{n:Int}(h:10^60<=n.natAbs)(h2:n.natAbs<10^600):wholeQ (numS n)=none:=by
 cases e:wholeQ (numS n)with
 |none=>rfl
 | some m =>
  obtain⟨e1,e2⟩:=wh_some e;have:=num_inj h2 (aj e2 (aB ze ze)) e1;subst this;omega
theorem rat_long{q:Rat}(h:10^60<=q.num.natAbs)(hq:RB 300 q):ratQ (shownS q.num q.den)=none:=by
 have h2:q.num.natAbs<10^600:=aj hq.1 zd;unfold ratQ shownS;split
 . rw[num_split];show(wholeQ (numS q.num)).map (λt=>(t,(1:Int)))=_;rw[wh_long h h2];rfl
 .
  rw[two_split]
  show(match wholeQ (numS q.num),wholeQ (numS (q.den:Int))with|some t,some b=>if 2<=b/\Int.gcd t b=1 then some (t,b)else none|_,_=>none)=_
  rw[wh_long h h2]
theorem shQ_as{q:Rat}(h:RB 300 q):As 203 (shQ q):=shown_as h.1 h.2
theorem shQs_as{qs:List Rat}(h:∀q∈qs,RB 300 q):∀z∈qs.map shQ,As 203 z:=λz hz=>by obtain⟨q,hq,rfl⟩:=a5.mp hz;exact shQ_as (h q hq)
theorem sat_shown_sending:∀ls ag,ls.length=1->fs_shown_sending ls ag->m_shown_sending (ls++List.replicate 0 .un) (okEnd ls ag):=by
 rintro ls ag - ⟨qs,rfl,hl,hq,h⟩;have e:sizeLine=16777216:=by decide
 unfold m_shown_sending;walk_at "w";refine⟨zZ,comp_map (enc:=frD) (h:=λq=>.str (shQ q)) qs [] _ (λq hm Q w=>?_) λl'=>?_⟩
 . unfold b_shown_sending_0;walk_at "w";refine⟨q.num,q.den,rfl,am_t (hq q hm),am_b (hq q hm),?_⟩;walk_at "w";exact w
 . walk_at "w";intro _;refine⟨qs.map shQ,by rw[cg];rfl,by rw[aC];exact hl,shQs_as hq,?_⟩;exact⟨_,back_d back0,h⟩
def fs_shown_ways:FS:=λls ag=>∃ws:List Bool,ls=[.d (.lst (ws.map λw=>.str (wayS w)))]/\ws.length<=20/\ag (.d (.str (wrS (ws.map wayS)))) ls
def m_shown_ways:W Fl:=(wRet (wCall fs_shown_words (aVal (wVar 0) aNil)))
theorem ways_as(ws:List Bool):∀z∈ws.map wayS,As 203 z:=λz hz=>by obtain⟨w,_,rfl⟩:=a5.mp hz;exact(way_as w).mono ze
theorem sat_shown_ways:∀ls ag,ls.length=1->fs_shown_ways ls ag->m_shown_ways (ls++List.replicate 0 .un) (okEnd ls ag):=by rintro ls ag - ⟨ws,rfl,hl,h⟩;unfold m_shown_ways;walk_at "w";refine⟨ws.map wayS,by rw[cg];rfl,by rw[aC];exact hl,ways_as ws,?_⟩;exact⟨_,back_d back0,h⟩
noncomputable def wayQ(x:Str):D:=if wayB (.str x)=true then .str x else .non
def fs_way_in:FS:=λls ag=>∃x:Str,ls=[.d (.str x)]/\As 100000 x/\ag (.d (wayQ x)) ls
def m_way_in:W Fl:=(wRet (wIfE (wTest (wCall fs_is_way (aVal (wVar 0) aNil))) (wVar 0) (wC .non)))
theorem sat_way_in:∀ls ag,ls.length=1->fs_way_in ls ag->m_way_in (ls++List.replicate 0 .un) (okEnd ls ag):=by
 rintro ls ag - ⟨x,rfl,hx,h⟩;unfold m_way_in;walk_at "w";refine⟨_,rfl,?_⟩;walk_at "w";unfold wayQ at h;by_cases c:wayB (.str x)=true
 . rw[if_pos c]at h ⊢;exact⟨_,back_d back0,h⟩
 . rw[if_neg c]at h ⊢;exact⟨_,back_d back0,h⟩
noncomputable def nonB:D->Bool
 |.non=>true
 |_=>false
noncomputable def ratW(x:Str):D:=ratD (ratQ x)
noncomputable def lstQ(one:Str->D)(sep x:Str):Option (List D):=if x=Str.ofString "-" then some []else if(Txt.split x sep).length<=20/\((Txt.split x sep).map one).any nonB=false then some ((Txt.split x sep).map one)else none
noncomputable def lstD(one:Str->D)(sep:Str):D->Option (List D)
 |.str x=>lstQ one sep x
 |_=>none
def fs_read_list:FSX:=λds ag xp=>∃(d:D)(g:Str)(one:Str->D),ds=[d,.str " ",.gf g]/\((g=Str.ofString "ratio_in"/\one=ratW)∨(g=Str.ofString "way_in"/\one=wayQ))/\(∀ x,d=.str x->As 100000 x)/\(∀ xs,lstD one " " d=some xs->∀ a,ag (.own a xs))/\(lstD one " " d=none->xp ⟨"NoText",["row"],[.int 0]⟩)
def b_read_list_0(xp:Xc->Prop):W L:=(wOr2 (wCallGf fs_ratio_in "ratio_in" 1 (aVal (wVar 0) aNil)) (wCallGf fs_way_in "way_in" 1 (aVal (wVar 0) aNil)))
def m_read_list(xp:Xc->Prop):W Fl:=(wSeq (wIf (wNot (wTest (wUn (opIsT "str") (wVar 0)))) (wRaise "NoText" ["row"] xp (aVal (wC (.int 0)) aNil)) wNext)
  (wSeq (wIf (wTest (wBin opEq (wVar 0) (wC (.str "-")))) (wRet (wLst aNil)) wNext)
  (wSeq (wSet 3 (wComp 1 [2] (wSrc (wSplitV (wVar 0) 1)) (tgName 0) wTrue (b_read_list_0 xp)))
  (wSeq (wIf (wOr (wTest (wBin opGt (wIsOwn 3 (wLenV 3) (wCallD opLen (aVal (wVar 3) aNil))) (wC (.int 20)))) (wPeekB 3 (wTest (wBin (opInS false) (wC .non) (wVar 3))))) (wRaise "NoText" ["row"] xp (aVal (wC (.int 0)) aNil)) wNext)
  (wRet (wMove 3))))))
theorem eqD_non(d:D):eqD d .non=nonB d:=by cases d<;>simp[eqD,toP,PyData.eqv,nonB]
theorem any_non(ds:List D):anyEq .non ds=ds.any nonB:=by
 unfold anyEq
 congr 1
 funext d
 exact eqD_non d
theorem as_ok{n:Nat}{x:Str}(h:As n x):PyData.strOk x=true:=asc_ok (by
 rw[<- Array.all_toList]
 exact aY.mpr λc hc=>bD (h.asc c hc))
theorem one_ok{g:Str}{one:Str->D}{n:Nat}{x:Str} (ho:(g=Str.ofString "ratio_in"/\one=ratW)∨(g=Str.ofString "way_in"/\one=wayQ)) (hx:As n x):okD 1 (one x)=true:=by
 rcases ho with⟨-,rfl⟩|⟨-,rfl⟩
 . unfold ratW;cases ratQ x<;>simp[ratD,okD,okDs]
 .
  unfold wayQ;split
  . simpa[okD]using as_ok hx
  . rfl
theorem one_run{g:Str}{one:Str->D}{z:Str}{xp:Xc->Prop}{Q:Ev->D->Prop} (ho:(g=Str.ofString "ratio_in"/\one=ratW)∨(g=Str.ofString "way_in"/\one=wayQ)) (hz:As 100000 z) (q:Q [.d (.str z),.d (.gf g)] (one z)) :
  b_read_list_0 xp [.d (.str z),.d (.gf g)] λr Z3=>toD r λy=>Q Z3 y:=by
 unfold b_read_list_0;rcases ho with⟨rfl,rfl⟩|⟨rfl,rfl⟩
 . refine .inl ?_;walk_at "w";refine⟨z,rfl,hz.len,hz.asc,part_asc hz.asc,?_⟩;walk_at "w";exact q
 . refine .inr ?_;walk_at "w";refine⟨z,rfl,hz,?_⟩;walk_at "w";exact q
theorem sat_read_list:∀ds ag xp,ds.length=3->fs_read_list ds ag xp->m_read_list xp (ds.map .d++List.replicate 1 .un) (okX ag):=by
 rintro ds ag xp - ⟨d,g,one,rfl,ho,hd,h,hx⟩;unfold m_read_list;by_cases c:∃x,d=.str x
 .
  obtain⟨x,rfl⟩:=c;have ax:=hd x rfl;walk_at "w";refine⟨shape_asc ax.asc,shape_asc (as_con (n:=5) zd).asc,?_⟩;have h:∀ xs,lstQ one (Str.ofString " ") x=some xs->∀ a,ag (.own a xs):=h;have hx:lstQ one (Str.ofString " ") x=none->xp ⟨"NoText",["row"],[.int 0]⟩:=hx;unfold lstQ at h hx;by_cases c1:x=Str.ofString "-"
  . rw[if_pos c1]at h;rw[if_pos c1];exact⟨ze,h _ rfl⟩
  rw[if_neg c1]at h hx;rw[if_neg c1];have hp:=part_as (y:=Str.ofString " ") ax;have sl:(Txt.split x (Str.ofString " ")).length<=sizeLine:=(spl_as ax ze zd).2.2;refine⟨spl_as ax ze zd,λ_=>?_⟩
  revert h hx hp sl
  generalize Txt.split x (Str.ofString " ")=ws;intro h hx hp sl;refine⟨sl,?_⟩;refine comp_map (enc:=D.str) (h:=one) ws [] _ (λz hz Q q=>one_run ho (hp z hz) q) λl'=>?_
  .
   walk_at "w";intro b;by_cases c2:20<ws.length
   . rw[if_pos (by omega)];exact⟨.inr trivial,ze,hx (if_neg λz=>by omega)⟩
   .
    rw[if_neg (by omega)];refine⟨shape_ok (n:=0) rfl ze,ze,λz hz=>?_,?_⟩
    . obtain⟨y,hy,rfl⟩:=a5.mp hz;exact shape_ok (one_ok ho (hp y hy)) ze
    .
     walk_at "w";rw[any_non]
     cases c3:(ws.map one).any nonB with
     | true =>
      rw[if_pos rfl];exact⟨.inr trivial,ze,hx (if_neg λz=>by rw[c3]at z;cases z.2)⟩
     | false =>
      rw[if_neg (by decide)];exact h _ (if_pos ⟨zZ,c3⟩) _
 .
  have e:isTy "str" d=false:=by cases d<;>first|rfl|exact absurd ⟨_,rfl⟩ c
  have e2:lstD one " " d=none:=by cases d<;>first|rfl|exact absurd ⟨_,rfl⟩ c
  walk_at "w";rw[if_pos e];exact⟨.inr trivial,ze,hx e2⟩
def fs_read_sending:FSX:=λds ag xp=>∃ d:D,ds=[d]/\(∀ x,d=.str x->As 100000 x)/\(∀ xs,lstD ratW " " d=some xs->∀ a,ag (.own a xs))/\(lstD ratW " " d=none->xp ⟨"NoText",["row"],[.int 0]⟩)
def m_read_sending(xp:Xc->Prop):W Fl:=(wRet (wCallX fs_read_list xp (aVal (wVar 0) (aVal (wC (.str " ")) (aVal (wC (.gf "ratio_in")) aNil)))))
theorem sat_read_sending:∀ds ag xp,ds.length=1->fs_read_sending ds ag xp->m_read_sending xp (ds.map .d++List.replicate 0 .un) (okX ag):=by rintro ds ag xp - ⟨d,rfl,hd,h,hx⟩;unfold m_read_sending;walk_at "w";exact⟨d,_,_,rfl,.inl ⟨rfl,rfl⟩,hd,h,hx⟩
def fs_read_ways:FSX:=λds ag xp=>∃ d:D,ds=[d]/\(∀ x,d=.str x->As 100000 x)/\(∀ xs,lstD wayQ " " d=some xs->∀ a,ag (.own a xs))/\(lstD wayQ " " d=none->xp ⟨"NoText",["row"],[.int 0]⟩)
def m_read_ways(xp:Xc->Prop):W Fl:=(wRet (wCallX fs_read_list xp (aVal (wVar 0) (aVal (wC (.str " ")) (aVal (wC (.gf "way_in")) aNil)))))
theorem sat_read_ways:∀ds ag xp,ds.length=1->fs_read_ways ds ag xp->m_read_ways xp (ds.map .d++List.replicate 0 .un) (okX ag):=by rintro ds ag xp - ⟨d,rfl,hd,h,hx⟩;unfold m_read_ways;walk_at "w";exact⟨d,_,_,rfl,.inr ⟨rfl,rfl⟩,hd,h,hx⟩
def fs__law_begun:FS:=λls ag=>∃(ns:List Int)(k:Int),ls=[.d (.lst (ns.map .int)),.d (.int k)]/\0<=k/\k<=100/\∀a xs,StOk xs->ag (.own a xs) ls
def m__law_begun:W Fl:=(wSeq (wSet 2 (wC (.int 0)))
  (wSeq (wIf (wTest (wBin opLt (wVar 1) (wCallD opLen (aVal (wVar 0) aNil)))) (wSet 2 (wBin opIx (wVar 0) (wVar 1))) wNext)
  (wRet (wLst (aVal (wVar 2) (aVal (wBin opMod (wBin opAdd (wBin opAdd (wBin opMod (wVar 2) (wC (.int 2147483587))) (wBin opMulI (wBin opMulI (wC (.int 48271)) (wVar 1)) (wVar 1))) (wC (.int 13))) (wC (.int 2147483587))) (aVal (wBin opGe (wVar 2) (wBin opPow (wC (.int 10)) (wC (.int 18)))) aNil)))))))
theorem sat__law_begun:∀ls ag,ls.length=2->fs__law_begun ls ag->m__law_begun (ls++List.replicate 1 .un) (okEnd ls ag):=by
 rintro ls ag - ⟨ns,k,rfl,h0,h1,h⟩;unfold m__law_begun
 have fin:∀(c:Int)(Z:Ev)(e:Z=[.d (.lst (ns.map .int)),.d (.int k),.d (.int c)]),∀a:Addr,okEnd [.d (.lst (ns.map .int)),.d (.int k)] ag (.rt (.own a [.int c,.int ((c.fmod 2147483587+48271*k*k+13).fmod 2147483587),.bl (decide ((10:Int)^18<=c))])) Z:=λc Z e a=>by
  refine⟨_,back_d (back_d back0),h a _ ⟨_,_,_,rfl,?_,?_⟩⟩
  . rw[Int.fmod_eq_emod_of_nonneg _ ze];exact Int.emod_nonneg _ ze
  . rw[Int.fmod_eq_emod_of_nonneg _ ze];have:=Int.emod_lt_of_pos (c.fmod 2147483587+48271*k*k+13) (b:=2147483587) ze;omega
 have hb1:bitsOk 48271:=bits_small ze;have hb2:bitsOk k:=bits_small (aQ (show k.natAbs<=100 by omega) ze);have hb3:bitsOk (48271*k):=bits_small (aQ (show(48271*k).natAbs<=4827100 by omega) ze);walk_at "w"
 try rw[aC]
 split
 .
  rename_i hk;have hk:k<(ns.length:Int):=by simpa using hk
  have hi:k.toNat<ns.length:=by omega
  refine⟨.int ns[k.toNat],atI_of h0 (by rw[bw,aE hi];rfl),?_⟩;exact⟨ze,hb1,hb2,hb3,hb2,ze,ze,ze,ze,ze,fin _ _ rfl⟩
 . exact⟨ze,hb1,hb2,hb3,hb2,ze,ze,ze,ze,ze,fin _ _ rfl⟩
def PlD(d:D):Prop:=(∃x,d=.str x)∨∃q,d=frD q
def fs__law_plain:FS:=λls ag=>∃d:D,ls=[.d d]/\PlD d/\ag (.d (.bl true)) ls
def b__law_plain_0:W L:=(wUn (opIsT "bool") (wVar 0))
def m__law_plain:W Fl:=(wSeq (wIf (wTest (wUn (opIsT "str") (wVar 0))) (wRet (wC (.bl true))) wNext)
  (wRet (wAndV (wUn (opIsT "tuple") (wVar 0)) (wNotV (wTest (wBin (opInF false) (wC (.bl true)) (wComp 1 [] (wSrc (wVar 0)) (tgName 0) wTrue b__law_plain_0)))))))
theorem sat__law_plain:∀ls ag,ls.length=1->fs__law_plain ls ag->m__law_plain (ls++List.replicate 0 .un) (okEnd ls ag):=by
 rintro ls ag - ⟨d,rfl,hd,h⟩;unfold m__law_plain;rcases hd with⟨x,rfl⟩|⟨q,rfl⟩
 . walk_at "w";exact⟨_,back_d back0,h⟩
 .
  walk_at "w";refine⟨ze,comp_map (enc:=D.int) (h:=λ_=>.bl false) [q.num,(q.den:Int)] [] _ (λz hz Q w=>?_) λl'=>?_⟩
  . unfold b__law_plain_0;walk_at "w";exact w
  . intro _;exact⟨rfl,rfl,_,back_d back0,h⟩
def fs__law_same:FS:=λls ag=>∃ds:List D,ls=[.d (.lst ds),.d (.lst ds)]/\ds.length<=100/\okD 3 (.lst ds)=true/\(∀d∈ds,PlD d)/\ag (.d (.bl true)) ls
def b__law_same_0:W L:=(wVar 0)
def m__law_same:W Fl:=(wRet (wAndV (wUn (opIsT "list") (wVar 0)) (wAndV (wBin opEq (wVar 0) (wVar 1)) (wBin opEq (wComp 1 [] (wSrc (wVar 0)) (tgName 0) (wNot (wTest (wCall fs__law_plain (aVal (wVar 0) aNil)))) b__law_same_0) (wLst aNil)))))
theorem comp_nil{te:W L}{ti:W Bool}{K:List D->Ev->Prop}:∀(ds:List D)(l:L),(∀d∈ds,∀Q:Bool->Ev->Prop,Q false [.d d]->ti [.d d] Q)->(∀l',K [] [l'])->compL (tgName 0) ti te ds [l] [] K
 |[],l,_,h=>h l
 | d::ds,l,st,h=>by unfold compL;show ti [.d d] _;refine st d zY _ ?_;exact comp_nil ds _ (λa ha=>st a (ai _ ha)) h
theorem sat__law_same:∀ls ag,ls.length=2->fs__law_same ls ag->m__law_same (ls++List.replicate 0 .un) (okEnd ls ag):=by
 rintro ls ag - ⟨ds,rfl,hl,ho,hp,h⟩;have e:sizeLine=16777216:=by decide
 have sh:=shape_ok ho ze;have er:=eqD_refl ho;unfold m__law_same;walk_at "w";refine⟨sh,sh,?_⟩;rw[er];walk_at "w";refine⟨zZ,comp_nil ds _ (λd hd Q q=>?_) λl'=>?_⟩
 . walk_at "w";refine⟨d,rfl,hp d hd,?_⟩;walk_at "w";exact q
 . walk_at "w";have s0:shapeD (.lst []):=shape_ok (n:=1) rfl ze;intro _;refine⟨zZ,λ_=>⟨s0,s0,?_⟩⟩;rw[eqD_nil];exact⟨_,back_d (back_d back0),h⟩
def fs__law_text:FS:=λls ag=>∃zs:List Str,ls=[.d (.lst (zs.map .str))]/\zs.length<=20/\(∀z∈zs,As 203 z)/\ag (.d (.str (wrS zs))) ls
def m__law_text:W Fl:=(wSeq (wIf (wTest (wBin opEq (wVar 0) (wLst aNil))) (wRet (wC (.str "-"))) wNext)
  (wRet (wJoin " " (wVar 0))))
theorem sat__law_text:∀ls ag,ls.length=1->fs__law_text ls ag->m__law_text (ls++List.replicate 0 .un) (okEnd ls ag):=by
 rintro ls ag - ⟨zs,rfl,hl,hz,h⟩;unfold m__law_text;walk_at "w"
 have sh:shapeD (.lst (zs.map D.str)):=shape_ok (n:=1) (by
  simp only[okD]
  exact okDs_map _ λz hz'=>by
   have:=asc_ok (x:=z) (by
    rw[<- Array.all_toList]
    exact aY.mpr λc hc=>bD ((hz z hz').asc c hc))
   simpa[okD]using this) ze
 refine⟨ze,λ_=>⟨sh,shape_ok (n:=1) rfl ze,?_⟩⟩;rw[eqD_nil];unfold wrS at h;by_cases c:zs=[]
 . subst c;rw[if_pos rfl]at h;exact⟨_,back_d back0,h⟩
 .
  have ne:(zs.map D.str).isEmpty=false:=by
   cases zs with
   |nil=>exact absurd rfl c
   |cons a b=>rfl
  rw[if_neg c]at h;rw[ne];walk_at "w";refine⟨zs,rfl,sum_wd (m:=1) hz zZ,?_⟩;rw[tj];exact⟨_,back_d back0,h⟩
def fs__law_ratio:FS:=λls ag=>∃t b:Int,ls=[.d (.tup [.int t,.int b])]/\t.natAbs<2^1900/\b.natAbs<2^1900/\ag (.d (.str (shownS t b))) ls
def m__law_ratio:W Fl:=(wSeq (wIf (wTest (wBin opEq (wBin opIx (wVar 0) (wC (.int 1))) (wC (.int 1)))) (wRet (wCallD opStrI (aVal (wBin opIx (wVar 0) (wC (.int 0))) aNil))) wNext)
  (wRet (wBin opAdd (wBin opAdd (wCallD opStrI (aVal (wBin opIx (wVar 0) (wC (.int 0))) aNil)) (wC (.str "/"))) (wCallD opStrI (aVal (wBin opIx (wVar 0) (wC (.int 1))) aNil)))))
theorem sat__law_ratio:∀ls ag,ls.length=1->fs__law_ratio ls ag->m__law_ratio (ls++List.replicate 0 .un) (okEnd ls ag):=by
 rintro ls ag - ⟨t,b,rfl,ht,hb,h⟩;have l1:=num_len ht;have l2:=num_len hb;have e:sizeLine=16777216:=by decide
 have l3:(Str.ofString "/").length=1:=by decide +kernel
 have a1:=strLen_append (numS t) (Str.ofString "/");unfold shownS at h;unfold m__law_ratio;walk_at "w";by_cases c:b=1
 . rw[if_pos c]at h ⊢;exact⟨log_lt ht,_,back_d back0,h⟩
 . rw[if_neg c]at h ⊢;unfold numS at *;refine⟨log_lt ht,zZ,log_lt hb,zZ,?_⟩;exact⟨_,back_d back0,h⟩
structure InQ (q:Rat):Prop where
 t:q.num.natAbs<10^60
 b:q.den<10^60
def fs__law_sending:FS:=λls ag=>∃qs:List Rat,ls=[.d (.lst (qs.map frD))]/\qs.length<=20/\(∀q∈qs,InQ q)/\ag (.d (.bl true)) ls
def c__law_sending_5:W Fl:=(wRet (wCall fs__law_same (aVal (wFrz (wCallX fs_read_sending (λ_=>False) (aVal (wVar 2) aNil))) (aVal (wVar 0) aNil))))
def c__law_sending_4:W Fl:=(wSeq (wDrop (wClear 3))
  c__law_sending_5)
def c__law_sending_3:W Fl:=(wSeq (wIf (wNot (wTest (wPeek 3 (wCall fs__law_same (aVal (wVar 3) (aVal (wVar 0) aNil)))))) (wRet (wC (.bl false))) wNext)
  c__law_sending_4)
def b__law_sending_0:W L:=(wCall fs__law_ratio (aVal (wVar 0) aNil))
def c__law_sending_2:W Fl:=(wSeq (wSet 3 (wCallX fs_read_sending (λ_=>False) (aVal (wVar 2) aNil)))
  c__law_sending_3)
def c__law_sending_1:W Fl:=(wSeq (wIf (wOr (wNot (wTest (wUn (opIsT "str") (wVar 2)))) (wOr (wTest (wBin opNe (wVar 1) (wVar 0))) (wTest (wBin opNe (wVar 2) (wCall fs__law_text (aVal (wFrz (wComp 1 [] (wSrc (wVar 0)) (tgName 0) wTrue b__law_sending_0)) aNil)))))) (wRet (wC (.bl false))) wNext)
  c__law_sending_2)
def c__law_sending_0:W Fl:=(wSeq (wSet 2 (wFrz (wCall fs_shown_sending (aVal (wVar 1) aNil))))
  c__law_sending_1)
def m__law_sending:W Fl:=(wSeq (wSet 1 (wFrz (wCallD opList (aVal (wVar 0) aNil))))
  c__law_sending_0)
theorem InQ.rb{q:Rat}(h:InQ q):RB 300 q:=⟨aj h.t (aG (show 10^60<=2^200 by decide) (aB ze ze)),aj h.b (aG (show 10^60<=2^200 by decide) (aB ze ze))⟩
theorem sh_free(q:Rat):32∉(shQ q).cps.toList:=λh=>by rcases shown_sign h with h|h<;>omega
theorem words_back{one:Str->D}{zs:List Str}{ds:List D}(hl:zs.length<=20)(hf:∀ z∈zs,32∉z.cps.toList)(hz:zs.map one=ds)(hn:ds.any nonB=false) (hd:one (Str.ofString "-")=.non):lstD one (Str.ofString " ") (.str (wrS zs))=some ds:=by
 show lstQ _ _ _=_;unfold lstQ wrS;by_cases ne:zs=[]
 . subst ne;rw[if_pos (c:=([]:List Str)=[]) rfl,if_pos rfl,<- hz];rfl
 .
  have sp:Txt.split (Str.join (Str.ofString " ") zs) (Str.ofString " ")=zs:=split_join sep_blank ne hf
  have hne:¬ Str.join (Str.ofString " ") zs=Str.ofString "-":=by
   intro e;rw[e]at sp;have e1:Txt.split (Str.ofString "-") (Str.ofString " ")=[Str.ofString "-"]:=by decide +kernel
   rw[e1]at sp;rw[<- hz,<- sp,a8,hd]at hn;cases hn
  have cnd:zs.length<=20/\(zs.map one).any nonB=false:=⟨hl,by rw[hz];exact hn⟩;rw[if_neg ne,if_neg hne,sp,if_pos cnd,hz]
theorem send_back{qs:List Rat}(hl:qs.length<=20)(hi:∀ q∈qs,InQ q):lstD ratW (Str.ofString " ") (.str (wrS (qs.map shQ)))=some (qs.map frD):=by
 refine words_back (by rw[aC]; exact hl) (λz hz=>?_) ?_ ?_ (by unfold ratW; rw[show ratQ (Str.ofString "-")=none from by decide +kernel]; rfl)
 . obtain⟨q,_,rfl⟩:=a5.mp hz;exact sh_free q
 . rw[cg];refine List.map_congr_left λq hq=>?_;show ratD (ratQ (shownS q.num q.den))=_;rw[rat_back (hi q hq).t (hi q hq).b];rfl
 . rw[List.any_eq_false];intro d hd;obtain⟨q,_,rfl⟩:=a5.mp hd;simp[frD,nonB]
theorem sending_3{ds:List D}{x:Str}{ag:L->List L->Prop}(ax:As 100000 x)(hl:ds.length<=100)(ho:okD 3 (.lst ds)=true)(hp:∀ d∈ds,PlD d) (rb:lstD ratW (Str.ofString " ") (.str x)=some ds) (h:ag (.d (.bl true)) [.d (.lst ds)]) :
  c__law_sending_2 [.d (.lst ds),.d (.lst ds),.d (.str x),.un] (okEnd [.d (.lst ds)] ag):=by
 have hd:∀y,D.str x=.str y->As 100000 y:=λy e=>by cases e;exact ax
 have rd:∀{Q:L->Prop},(∀a,Q (.own a ds))->fs_read_sending [.str x] Q (λ_=>False):=λ{Q} hq=>⟨_,rfl,hd,λxs e=>by
  have e2:some ds=some xs:=rb.symm.trans e;cases e2
  exact hq,λe=>by
  have e2:some ds=none:=rb.symm.trans e
  cases e2⟩
 clear rb;unfold c__law_sending_2;walk_at "w";refine rd λa=>?_;walk_at "w";unfold c__law_sending_3;refine st_ifF (λk hk=>?_) (st_next ?_)
 . walk_at "w";exact⟨ds,rfl,hl,ho,hp,rfl,hk⟩
 unfold c__law_sending_4;walk_at "w";unfold c__law_sending_5;walk_at "w";exact rd λa=>⟨ds,rfl,hl,ho,hp,_,back_d back0,h⟩
theorem sat__law_sending:∀ls ag,ls.length=1->fs__law_sending ls ag->m__law_sending (ls++List.replicate 3 .un) (okEnd ls ag):=by
 rintro ls ag - ⟨qs,rfl,hl,hi,h⟩;have hb:∀q∈qs,RB 300 q:=λq hq=>(hi q hq).rb;have za:=shQs_as hb;have zl:(qs.map shQ).length<=20:=by rw[aC];exact hl
 have ax:=wrS_as zl za;have sb:=send_back hl hi;have ho:okD 3 (.lst (qs.map frD))=true:=by simp only[okD];exact okDs_map _ λq _=>okD_fr 1 q
 have sh:=shape_frs qs;have sx:=shape_asc ax.asc;have er:=eqD_refl ho;have e:sizeLine=16777216:=by decide
 unfold m__law_sending;walk_at "w";intro _;unfold c__law_sending_0;walk_at "w";refine⟨qs,rfl,hl,hb,?_⟩;walk_at "w";unfold c__law_sending_1;refine st_ifF (λk hk=>?_) (st_next ?_)
 .
  walk_at "w";refine⟨sh,sh,?_⟩;rw[er];walk_at "w";refine⟨zZ,comp_map (enc:=frD) (h:=λq=>.str (shQ q)) qs [] _ (λq hm Q w=>?_) λl'=>?_⟩
  . unfold b__law_sending_0;walk_at "w";refine⟨q.num,q.den,rfl,am_t (hb q hm),am_b (hb q hm),?_⟩;walk_at "w";exact w
  . walk_at "w";intro _;refine⟨qs.map shQ,by rw[cg];rfl,zl,za,?_⟩;walk_at "w";refine⟨sx,sx,?_⟩;simp only[not_true_eq_false,decide_false,decide_true,Bool.not_true];exact hk
 .
  exact sending_3 ax (by rw[aC];omega) ho (λd hd=>by
   obtain⟨q,_,rfl⟩:=a5.mp hd
   exact .inr ⟨q,rfl⟩) sb h
def fs__law_ways:FS:=λls ag=>∃ws:List Bool,ls=[.d (.lst (ws.map λw=>.str (wayS w)))]/\ws.length<=20/\ag (.d (.bl true)) ls
def c__law_ways_5:W Fl:=(wRet (wCall fs__law_same (aVal (wFrz (wCallX fs_read_ways (λ_=>False) (aVal (wVar 2) aNil))) (aVal (wVar 0) aNil))))
def c__law_ways_4:W Fl:=(wSeq (wDrop (wClear 3))
  c__law_ways_5)
def c__law_ways_3:W Fl:=(wSeq (wIf (wNot (wTest (wPeek 3 (wCall fs__law_same (aVal (wVar 3) (aVal (wVar 0) aNil)))))) (wRet (wC (.bl false))) wNext)
  c__law_ways_4)
def c__law_ways_2:W Fl:=(wSeq (wSet 3 (wCallX fs_read_ways (λ_=>False) (aVal (wVar 2) aNil)))
  c__law_ways_3)
def c__law_ways_1:W Fl:=(wSeq (wIf (wOr (wNot (wTest (wUn (opIsT "str") (wVar 2)))) (wOr (wTest (wBin opNe (wVar 1) (wVar 0))) (wTest (wBin opNe (wVar 2) (wCall fs__law_text (aVal (wVar 0) aNil)))))) (wRet (wC (.bl false))) wNext)
  c__law_ways_2)
def c__law_ways_0:W Fl:=(wSeq (wSet 2 (wFrz (wCall fs_shown_ways (aVal (wVar 1) aNil))))
  c__law_ways_1)
def m__law_ways:W Fl:=(wSeq (wSet 1 (wFrz (wCallD opList (aVal (wVar 0) aNil))))
  c__law_ways_0)
theorem ways_back{ws:List Bool}(hl:ws.length<=20):lstD wayQ (Str.ofString " ") (.str (wrS (ws.map wayS)))=some (ws.map λw=>.str (wayS w)):=by
 refine words_back (by rw[aC];exact hl) (λz hz=>?_) ?_ ?_ (by unfold wayQ;exact if_neg (by decide +kernel))
 . obtain⟨w,_,rfl⟩:=a5.mp hz;intro h;have:=way_sign h;omega
 . rw[cg];refine List.map_congr_left λw _=>?_;show wayQ (wayS w)=_;unfold wayQ;rw[wayB_way,if_pos rfl]
 . rw[List.any_eq_false];intro d hd;obtain⟨q,_,rfl⟩:=a5.mp hd;simp[nonB]
theorem ways_3{ds:List D}{x:Str}{ag:L->List L->Prop}(ax:As 100000 x)(hl:ds.length<=100)(ho:okD 3 (.lst ds)=true)(hp:∀ d∈ds,PlD d) (rb:lstD wayQ (Str.ofString " ") (.str x)=some ds) (h:ag (.d (.bl true)) [.d (.lst ds)]) :
  c__law_ways_2 [.d (.lst ds),.d (.lst ds),.d (.str x),.un] (okEnd [.d (.lst ds)] ag):=by
 have hd:∀y,D.str x=.str y->As 100000 y:=λy e=>by cases e;exact ax
 have rd:∀{Q:L->Prop},(∀a,Q (.own a ds))->fs_read_ways [.str x] Q (λ_=>False):=λ{Q} hq=>⟨_,rfl,hd,λxs e=>by
  have e2:some ds=some xs:=rb.symm.trans e;cases e2
  exact hq,λe=>by
  have e2:some ds=none:=rb.symm.trans e
  cases e2⟩
 clear rb;unfold c__law_ways_2;walk_at "w";refine rd λa=>?_;walk_at "w";unfold c__law_ways_3;refine st_ifF (λk hk=>?_) (st_next ?_)
 . walk_at "w";exact⟨ds,rfl,hl,ho,hp,rfl,hk⟩
 unfold c__law_ways_4;walk_at "w";unfold c__law_ways_5;walk_at "w";exact rd λa=>⟨ds,rfl,hl,ho,hp,_,back_d back0,h⟩
theorem sat__law_ways:∀ls ag,ls.length=1->fs__law_ways ls ag->m__law_ways (ls++List.replicate 3 .un) (okEnd ls ag):=by
 rintro ls ag - ⟨ws,rfl,hl,h⟩;have za:=ways_as ws;have zl:(ws.map wayS).length<=20:=by rw[aC];exact hl
 have ax:=wrS_as zl za;have sb:=ways_back hl;have ho:okD 3 (.lst (ws.map λw=>D.str (wayS w)))=true:=by simp only[okD];exact okDs_map _ λw _=>by cases w<;>decide +kernel
 have sh:=shape_ok ho ze;have sx:=shape_asc ax.asc;have er:=eqD_refl ho;unfold m__law_ways;walk_at "w";intro _;unfold c__law_ways_0;walk_at "w";refine⟨ws,rfl,hl,?_⟩;walk_at "w";unfold c__law_ways_1;refine st_ifF (λk hk=>?_) (st_next ?_)
 . walk_at "w";refine⟨sh,sh,?_⟩;rw[er];walk_at "w";refine⟨ws.map wayS,by rw[cg];rfl,zl,za,?_⟩;walk_at "w";refine⟨sx,sx,?_⟩;simp only[not_true_eq_false,decide_false,decide_true,Bool.not_true];exact hk
 .
  exact ways_3 ax (by rw[aC];omega) ho (λd hd=>by
   obtain⟨q,_,rfl⟩:=a5.mp hd
   exact .inl ⟨_,rfl⟩) sb h
def fs__law_take:FS:=λls ag=>∃(a:Addr)(xs:List D)(m:Int),ls=[.own a xs,.d (.int m)]/\StOk xs/\0<m/\m<=10^60/\∀(r:Int)(ys:List D),StOk ys->0<=r->r<m->ag (.d (.int r)) [.own a ys,.d (.int m)]
def b__law_take_0:W Fl:=(wSeq (wSetV 0 (wC (.int 1)) (wBin opMod (wBin opAdd (wBin opMulI (wIsOwn 0 (wIxV 0 (wC (.int 1))) (wBin opIx (wVar 0) (wC (.int 1)))) (wC (.int 39373))) (wC (.int 17))) (wC (.int 2147483647))))
  (wSet 3 (wFrz (wBin opAdd (wBin opMulI (wVar 3) (wC (.int 2147483629))) (wBin opMod (wBin opMulI (wIsOwn 0 (wIxV 0 (wC (.int 1))) (wBin opIx (wVar 0) (wC (.int 1)))) (wIsOwn 0 (wIxV 0 (wC (.int 1))) (wBin opIx (wVar 0) (wC (.int 1))))) (wC (.int 2147483629)))))))
def m__law_take:W Fl:=(wSeq (wIf (wTest (wIsOwn 0 (wIxV 0 (wC (.int 2))) (wBin opIx (wVar 0) (wC (.int 2))))) (wSeq (wSet 2 (wBin opMod (wIsOwn 0 (wIxV 0 (wC (.int 0))) (wBin opIx (wVar 0) (wC (.int 0)))) (wVar 1)))
  (wSeq (wSetV 0 (wC (.int 0)) (wBin opDiv (wIsOwn 0 (wIxV 0 (wC (.int 0))) (wBin opIx (wVar 0) (wC (.int 0)))) (wVar 1)))
  (wSeq (wSetV 0 (wC (.int 2)) (wBin opGt (wIsOwn 0 (wIxV 0 (wC (.int 0))) (wBin opIx (wVar 0) (wC (.int 0)))) (wC (.int 0))))
  (wRet (wMove 2))))) wNext)
  (wSeq (wSet 3 (wC (.int 0)))
  (wSeq (wFor (wRng1 (wBin opAdd (wC (.int 1)) (wBin opMulI (wC (.int 8)) (wCallD opInt (aVal (wBin opGt (wVar 1) (wBin opPow (wC (.int 10)) (wC (.int 6)))) aNil))))) (tgName 4) b__law_take_0)
  (wRet (wBin opMod (wBin opDiv (wVar 3) (wC (.int 64))) (wVar 1))))))
theorem take_loop{a:Addr}{c:Int}{m x2:L}{ag:Fl->Ev->Prop}:∀(items:List D)(sd dr:Int)(j:Nat)(x4:L),j+items.length<=100->0<=sd->sd<2147483647->0<=dr->dr<2^(40*j) ->
  (∀sd' dr' x',0<=sd'->sd' < 2147483647->0<=dr'->ag .nx [.own a [.int c,.int sd',.bl false],m,x2,.d (.int dr'),x']) ->
  wForL (tgName 4) b__law_take_0 items [.own a [.int c,.int sd,.bl false],m,x2,.d (.int dr),x4] ag
 |[],sd,dr,j,x4,_,h0,h1,h2,h3,h=>h sd dr x4 h0 h1 h2
 | y::items,sd,dr,j,x4,hl,h0,h1,h2,h3,h=>by
  unfold wForL b__law_take_0;walk_at "w";obtain⟨r0,r1⟩:=fmod_rng (sd*39373+17) (m:=2147483647) ze;generalize (sd*39373+17).fmod 2147483647=s' at r0 r1 ⊢;obtain⟨q0,q1⟩:=fmod_rng (s'*s') (m:=2147483629) ze;generalize (s'*s').fmod 2147483629=t' at q0 q1 ⊢;have hl':j+(items.length+1)<=100:=hl;have b1:bitsOk sd:=bits_le (n:=40) h0 zZ ze;have b2:bitsOk s':=bits_le (n:=40) r0 zZ ze;have b3:bitsOk dr:=bits_le (n:=40*j) h2 h3 zZ;have b4:bitsOk 39373:=bits_small ze;have b5:bitsOk 2147483629:=bits_small ze;refine⟨b1,b4,ze,b3,b5,b2,b2,ze,?_⟩;refine take_loop items s' (dr*2147483629+t') (j+1) _ zZ r0 r1 zZ ?_ h;have e:(2:Int)^(40*(j+1))=2^(40*j)*1099511627776:=by rw[Nat.mul_succ,Int.pow_add];rfl
  omega
theorem sat__law_take:∀ls ag,ls.length=2->fs__law_take ls ag->m__law_take (ls++List.replicate 3 .un) (okEnd ls ag):=by
 rintro ls ag - ⟨a,xs,m,rfl,⟨c,sd,t,rfl,h0,h1⟩,hm,hM,h⟩;unfold m__law_take;have hm0:m≠0:=by omega
 have hmz:=small9000 zZ hM
 cases t with
 | true =>
  walk_at "w";obtain⟨r0,r1⟩:=fmod_rng c hm;exact⟨hm0,hm0,hmz,_,back_own ao (back_d back0),h _ _ ⟨_,_,_,rfl,h0,h1⟩ r0 r1⟩
 | false =>
  walk_at "w";refine⟨ze,ze,ze,bits_small ze,bits_small (by split<;>decide),⟨by split<;>decide,by split<;>decide⟩,?_⟩;refine take_loop (c:=c) _ sd 0 0 _ (by simp only[rngD,aC,List.length_range];split<;>decide) h0 h1 ze ze λsd' dr' x' g0 g1 g2=>?_;walk_at "w";obtain⟨r0,r1⟩:=fmod_rng (dr'.fdiv 64) hm;exact⟨ze,ze,hm0,_,back_own ao (back_d back0),h _ _ ⟨_,_,_,rfl,g0,g1⟩ r0 r1⟩
def fs__law_longer:FS:=λls ag=>∃(a:Addr)(xs:List D),ls=[.own a xs]/\StOk xs/\∀ys,ag (.d (.bl true)) [.own a ys]
def c__law_longer_3:W Fl:=(wRet (wAndV (wVar 3) (wBin opEq (wVar 2) (wBin opAdd (wC (.str "1/2 ")) (wCall fs__law_ratio (aVal (wVar 1) aNil))))))
def c__law_longer_2:W Fl:=(wSeq (wTryAs (λxt=>(wDrop (wCallT fs_read_sending xt (aVal (wVar 2) aNil)))) "NoText" 4 (wSet 3 (wBin opEq (wUn (opFld "row") (wVar 4)) (wC (.int 0)))))
  c__law_longer_3)
def c__law_longer_1:W Fl:=(wSeq (wSet 3 (wC (.bl false)))
  c__law_longer_2)
def c__law_longer_0:W Fl:=(wSeq (wSet 2 (wFrz (wCall fs_shown_sending (aVal (wFrz (wLst (aVal (wTup (aVal (wC (.int 1)) (aVal (wC (.int 2)) aNil))) (aVal (wVar 1) aNil)))) aNil))))
  c__law_longer_1)
def m__law_longer:W Fl:=(wSeq (wSet 1 (wFrz (wCall fs_times (aVal (wTup (aVal (wFrz (wBin opAdd (wC (.int 1)) (wBin opMulI (wBin opPow (wC (.int 10)) (wC (.int 40))) (wBin opAdd (wC (.int 1)) (wCallB fs__law_take 0 0 (aVar 0 (aVal (wBin opPow (wC (.int 10)) (wC (.int 9))) aNil))))))) (aVal (wC (.int 1)) aNil))) (aVal (wTup (aVal (wFrz (wBin opAdd (wBin opPow (wC (.int 10)) (wC (.int 30))) (wC (.int 1)))) (aVal (wFrz (wBin opAdd (wC (.int 1)) (wCallB fs__law_take 0 0 (aVar 0 (aVal (wC (.int 9)) aNil))))) aNil))) aNil)))))
  c__law_longer_0)
theorem half_fr:D.tup [.int 1,.int 2]=frD (Rat.divInt 1 2):=(fr_low ze ze).symm
theorem half_in:RB 300 (Rat.divInt 1 2):=RB.of_divInt ze ze ze
theorem half_sh:shQ (Rat.divInt 1 2)=Str.ofString "1/2":=by
 have h:=half_fr;unfold frD at h;have h1:(1:Int)=(Rat.divInt 1 2).num:=by injection h with h;injection h with h1 h2;injection h1
 have h2:(2:Int)=((Rat.divInt 1 2).den:Int):=by injection h with h;injection h with h1 h2;injection h2 with h2 h3;injection h2
 unfold shQ;rw[<- h1,<- h2];decide +kernel
theorem two_join(x y:Str):Str.join (Str.ofString " ") [x,y]=x++Str.ofString " "++y:=rfl
theorem long_text(q:Rat):wrS ([Rat.divInt 1 2,q].map shQ)=Str.ofString "1/2 "++shQ q:=by unfold wrS;rw[if_neg (by simp),a8,a8,List.map_nil,two_join,half_sh];rw[show Str.ofString "1/2"++Str.ofString " "=Str.ofString "1/2 " from by decide +kernel]
theorem long_none{q:Rat}(hn:10^60<=q.num.natAbs)(hq:RB 300 q):lstD ratW (Str.ofString " ") (.str (wrS ([Rat.divInt 1 2,q].map shQ)))=none:=by
 show lstQ _ _ _=_;unfold lstQ wrS;have sp:Txt.split (Str.join (Str.ofString " ") ([Rat.divInt 1 2,q].map shQ)) (Str.ofString " ")=[Rat.divInt 1 2,q].map shQ:=split_join sep_blank zY λp hp=>by obtain⟨s,hs,rfl⟩:=a5.mp hp;exact sh_free s
 have hne:¬ Str.join (Str.ofString " ") ([Rat.divInt 1 2,q].map shQ)=Str.ofString "-":=by
  intro e;rw[e]at sp;have e1:(Txt.split (Str.ofString "-") (Str.ofString " ")).length=1:=by decide +kernel
  rw[sp]at e1;exact absurd e1 (by show ¬2=1;decide)
 have nn:(([Rat.divInt 1 2,q].map shQ).map ratW).any nonB=true:=by rw[List.any_eq_true];exact⟨_,a5.mpr ⟨shQ q,zY,rfl⟩,by unfold ratW shQ;rw[rat_long hn hq];rfl⟩
 rw[if_neg (c:=[Rat.divInt 1 2,q].map shQ=[]) zY,if_neg hne,sp,if_neg (λz=>by rw[nn]at z;cases z.2)]
theorem l2{a:Addr}{xs ys:List D}{q:Rat}{ag:L->List L->Prop}(hn:10^60<=q.num.natAbs)(hq:RB 300 q)(h:∀ys,ag (.d (.bl true)) [.own a ys]) :
  c__law_longer_0 [.own a ys,.d (frD q),.un,.un,.un] (okEnd [.own a xs] ag):=by
 have hb:∀z∈[Rat.divInt 1 2,q],RB 300 z:=λz hz=>by
  simp only[aD,List.not_mem_nil,or_false]at hz;rcases hz with rfl|rfl
  . exact half_in
  . exact hq
 have ax:As 100000 (wrS ([Rat.divInt 1 2,q].map shQ)):=wrS_as (by show 2<=20;decide) (shQs_as hb);have rl:=long_none hn hq;have e:sizeLine=16777216:=by decide
 have sx:=shape_asc ax.asc;have ex:=long_text q;unfold c__law_longer_0;walk_at "w";refine⟨zZ,zZ,λ_=>⟨[Rat.divInt 1 2,q],by rw[half_fr];rfl,by show 2<=20;decide,hb,?_⟩⟩;generalize wrS ([Rat.divInt 1 2,q].map shQ)=x at *;walk_at "w";unfold c__law_longer_1;walk_at "w";unfold c__law_longer_2;walk_at "w"
 refine⟨.str x,rfl,(λy z=>by cases z;exact ax),(λys z=>by
  have z2:=rl.symm.trans z
  cases z2),λ_=>⟨ze,?_⟩⟩
 walk_at "w";have a4:List.lookup (Str.ofString "row") ([Str.ofString "row"].zip [D.int 0])=some (D.int 0):=by show List.lookup (Str.ofString "row") [(Str.ofString "row",D.int 0)]=_;rw[aO,show(Str.ofString "row" == Str.ofString "row")=true from by decide +kernel]
 rw[a4];walk_at "w";unfold c__law_longer_3;walk_at "w";simp only[decide_true];walk_at "w";refine⟨q.num,q.den,rfl,am_t hq,am_b hq,?_⟩;walk_at "w";have as2:=shQ_as hq;unfold shQ at ex as2;have l4:(Str.ofString "1/2 ").length=4:=by decide +kernel
 have l5:=as2.len;rw[<- ex];refine⟨zZ,sx,sx,?_⟩;rw[bD rfl];exact⟨[.own a ys],back_own zY back0,h ys⟩
theorem sat__law_longer:∀ls ag,ls.length=1->fs__law_longer ls ag->m__law_longer (ls++List.replicate 4 .un) (okEnd ls ag):=by
 rintro ls ag - ⟨a,x1,rfl,h1,h⟩;unfold m__law_longer;walk_at "w";refine⟨ze,ze,ze,ze,ze,ze,a,x1,_,rfl,h1,ze,ze,λu x2 h2 u0 u1=>⟨x2,rfl,?_⟩⟩;walk_at "w";have e9:(10:Int)^Int.toNat 9=1000000000:=by decide
 have up:∀{i:Int},i.natAbs<2^200->bitsOk i:=λ{i} hi=>aj hi (aB ze ze);have bk:bitsOk (1+u):=up (aj (show(1+u).natAbs<2^64 by omega) (aB ze ze));refine⟨up ze,bk,ze,ze,ze,ze,a,x2,9,rfl,h2,ze,ze,λv x3 h3 v0 v1=>⟨x3,rfl,?_⟩⟩;walk_at "w";obtain⟨e1,b1,b2,hn⟩:=long_am u0 (show u<10^9 by omega) v0 v1;have hb:=(b2.mul b1).mono (show 170+101<=300 by decide);refine⟨ze,((1+10^40*(1+u):Int):Rat),Rat.divInt (10^30+1) (1+v),by rw[e1];rfl,b2.mono ze,b1.mono ze,?_⟩
 revert hn hb
 generalize ((1+10^40*(1+u):Int):Rat)*Rat.divInt (10^30+1) (1+v)=q;intro hn hb;walk_at "w";exact l2 hn hb h
def fs__law_number:FS:=λls ag=>∃(a:Addr)(xs:List D),ls=[.own a xs]/\StOk xs/\∀(r:Int)(ys:List D),StOk ys->r.natAbs<10^60->ag (.d (.int r)) [.own a ys]
def m__law_number:W Fl:=(wSeq (wSet 1 (wFrz (wCallB fs__law_take 0 0 (aVar 0 (aVal (wBin opIx (wLst (aVal (wC (.int 3)) (aVal (wC (.int 100)) (aVal (wBin opPow (wC (.int 10)) (wC (.int 9))) (aVal (wBin opPow (wC (.int 10)) (wC (.int 60))) aNil))))) (wCallB fs__law_take 0 0 (aVar 0 (aVal (wC (.int 4)) aNil)))) aNil)))))
  (wRet (wBin opIx (wLst (aVal (wVar 1) (aVal (wBin opSub (wC (.int 0)) (wVar 1)) aNil))) (wCallB fs__law_take 0 0 (aVar 0 (aVal (wC (.int 2)) aNil))))))
theorem sat__law_number : ∀ls ag, ls.length = 1 -> fs__law_number ls ag -> m__law_number (ls ++ List.replicate 1 .un) (okEnd ls ag) := by
  rintro ls ag - ⟨a, xs, rfl, hx, h⟩;unfold m__law_number;walk_at "w";refine⟨ze, by decide, by decide, by decide, by decide, by decide, by decide, λ_ => ⟨a, xs, 4, rfl, hx, by decide, by decide, λr ys hy r0 r1 => ⟨ys, rfl, ?_⟩⟩⟩;have : r = 0 ∨ r = 1 ∨ r = 2 ∨ r = 3 := by omega
  rcases this with rfl|rfl|rfl|rfl
  all_goals
    walk_at "w"
    try rw[atI_3]
    try simp only[aI, ba]
    refine⟨a, ys, _, rfl, hy, by decide, by decide, λq zs hz q0 q1 => ⟨zs, rfl, ?_⟩⟩;walk_at "w";refine⟨ze, λ_ => ⟨a, zs, 2, rfl, hz, by decide, by decide, λk ws hw k0 k1 => ⟨ws, rfl, ?_⟩⟩⟩;have hk : k = 0 ∨ k = 1 := by omega
    have hq : q.natAbs<10^60 := by
      refine aj (m := 10^60) ?_ (ay _)
      first
        | (have : q <(10 : Int) ^ 60 := Int.lt_of_lt_of_le q1 ze
           omega)
    have hq2 : (0-q).natAbs<10^60 := by omega
    rcases hk with rfl|rfl
    . walk_at "w"
      exact⟨_, back_own ao back0, h _ _ hw hq⟩
    . walk_at "w"
      exact⟨_, back_own ao back0, h _ _ hw hq2⟩
def fs__law_low:FS:=λls ag=>∃t b:Int,ls=[.d (.int t),.d (.int b)]/\b≠0/\b.natAbs<2^9000/\ag (.d (frD (Rat.divInt t b))) ls
def b__law_low_0:W Fl:=(wPar 2 3 (wBin opMod (wVar 3) (wVar 2)) (wVar 2))
def m__law_low:W Fl:=(wSeq (wSet 2 (wFrz (wCallD opAbs (aVal (wVar 0) aNil))))
  (wSeq (wSet 3 (wFrz (wCallD opAbs (aVal (wVar 1) aNil))))
  (wSeq (wWhile (wTest (wBin opNe (wVar 2) (wC (.int 0)))) b__law_low_0)
  (wSeq (wIf (wTest (wBin opLt (wVar 1) (wC (.int 0)))) (wSet 3 (wBin opSub (wC (.int 0)) (wVar 3))) wNext)
  (wRet (wTup (aVal (wBin opDiv (wVar 0) (wVar 3)) (aVal (wBin opDiv (wVar 1) (wVar 3)) aNil))))))))
theorem sat__law_low:∀ls ag,ls.length=2->fs__law_low ls ag->m__law_low (ls++List.replicate 2 .un) (okEnd ls ag):=by
 rintro ls ag - ⟨t,b,rfl,hb,hz,h⟩;unfold m__law_low;walk_at "w";have h1:=share_ne (t:=t) hb;have h2:=aQ (share_le (t:=t) hb) hz
 have fin:∀{g:Int}{Z:Ev},g=shareOf t b->g≠0/\g.natAbs<2^9000/\g≠0/\g.natAbs<2^9000/\2<=sizeLine/\okEnd [.d (.int t),.d (.int b)] ag (.rt (.d (.tup [.int (t.fdiv g),.int (b.fdiv g)]))) Z:=λ{g Z} e=>by
  have e1:g≠0:=by rw[e];exact h1
  have e2:g.natAbs<2^9000:=by rw[e];exact h2
  refine⟨e1,e2,e1,e2,ze,_,back_d (back_d back0),?_⟩;rw[low_pair hb e];exact h
 refine⟨λn Z=>∃x y:Int,Z=[.d (.int t),.d (.int b),.d (.int x),.d (.int y)]/\0<=x/\0<=y/\Int.gcd x y=Int.gcd t b/\n=x.natAbs,⟨_,_,_,rfl,by split<;>omega,by split<;>omega,?_,rfl⟩,?_⟩
 .
  have e1:(if t<0 then -t else t)=(t.natAbs:Int):=by split<;>omega
  have e2:(if b<0 then -b else b)=(b.natAbs:Int):=by split<;>omega
  rw[e1,e2];simp[Int.gcd]
 .
  rintro n Z ⟨x,y,rfl,x0,y0,hg,rfl⟩;unfold b__law_low_0;walk_at "w";split
  .
   rename_i hx;have hx:x≠0:=by simpa using hx
   refine⟨hx,_,natAbs_fmod_lt y hx,_,_,rfl,(fmod_rng y zZ).1,x0,?_,rfl⟩;rw[Int.gcd_comm,gcd_fmod,Int.gcd_comm];exact hg
  .
   rename_i hx;have hx:x=0:=by simpa using hx
   subst hx;have hy:y=(Int.gcd t b:Int):=by rw[<- hg,Int.gcd_zero_left];omega
   split
   . rename_i hlt;exact fin (by simp[shareOf,hlt,hy])
   . rename_i hlt;exact fin (by simp[shareOf,hlt,hy])
def fs__law_parts:FS:=λls ag=>∃(a:Addr)(xs:List D),ls=[.own a xs]/\StOk xs/\∀(b:Addr)(qs:List Rat)(ys:List D),StOk ys->qs.length<=20->(∀q∈qs,InQ q)->ag (.own b (qs.map frD)) [.own a ys]
def c__law_parts_b1_0:W Fl:=(wDrop (wApp 1 (wCall fs__law_low (aVal (wVar 3) (aVal (wFrz (wBin opAdd (wC (.int 1)) (wCallB fs__law_take 0 0 (aVar 0 (aVal (wBin opIx (wLst (aVal (wC (.int 1)) (aVal (wC (.int 12)) (aVal (wBin opPow (wC (.int 10)) (wC (.int 9))) (aVal (wBin opSub (wBin opPow (wC (.int 10)) (wC (.int 60))) (wC (.int 1))) aNil))))) (wCallB fs__law_take 0 0 (aVar 0 (aVal (wC (.int 4)) aNil)))) aNil))))) aNil)))))
def b__law_parts_0:W Fl:=(wSeq (wSet 3 (wFrz (wCallB fs__law_number 0 0 (aVar 0 aNil))))
  c__law_parts_b1_0)
def m__law_parts:W Fl:=(wSeq (wSet 1 (wLst aNil))
  (wSeq (wFor (wRng1 (wCallB fs__law_take 0 0 (aVar 0 (aVal (wC (.int 21)) aNil)))) (tgName 2) b__law_parts_0)
  (wRet (wMove 1))))
theorem sat__law_parts:∀ls ag,ls.length=1->fs__law_parts ls ag->m__law_parts (ls++List.replicate 3 .un) (okEnd ls ag):=by
 rintro ls ag - ⟨a,xs,rfl,hx,h⟩;unfold m__law_parts;walk_at "w";refine⟨ze,λb=>?_⟩;walk_at "w";refine⟨a,xs,21,rfl,hx,ze,ze,λm x1 h1 m0 m1=>⟨x1,rfl,?_⟩⟩;walk_at "w";refine⟨⟨zZ,zZ⟩,?_⟩;refine forR_inv 0 m.toNat (λj Z=>∃ys qs x2 x3,Z=[.own a ys,.own b (qs.map frD),x2,x3]/\StOk ys/\qs.length=j/\∀q∈qs,InQ q) _ ⟨x1,[],_,_,rfl,h1,rfl,λq hq=>by cases hq⟩ ?_ ?_
 .
  rintro j Z hj ⟨ys,qs,x2,x3,rfl,hy,hn,hi⟩ Q h1 h2 h3 h4;unfold b__law_parts_0;walk_at "w";refine⟨a,ys,rfl,hy,λt y1 hy1 ht=>⟨y1,rfl,?_⟩⟩;walk_at "w";unfold c__law_parts_b1_0;walk_at "w";refine⟨ze,ze,ze,ze,ze,ze,ze,λ_=>⟨a,y1,4,rfl,hy1,ze,ze,λk x2 hx2 k0 k1=>⟨x2,rfl,?_⟩⟩⟩
  have pick:∃m:Int,atI [D.int 1,D.int 12,D.int (10^Int.toNat 9),D.int (10^Int.toNat 60-1)] k=some (.int m)/\0<m/\m<10^60:=by
   have hk:k=0∨k=1∨k=2∨k=3:=by omega
   rcases hk with rfl|rfl|rfl|rfl
   . exact⟨1,atI_0,ze,ze⟩
   . exact⟨12,atI_1,ze,ze⟩
   . exact⟨_,atI_2,ze,ze⟩
   . exact⟨_,atI_3,ze,ze⟩
  obtain⟨m',em,m0',m1'⟩:=pick;walk_at "w";refine⟨_,em,a,x2,m',rfl,hx2,m0',zZ,λu x3 hx3 u0 u1=>⟨x3,rfl,?_⟩⟩;walk_at "w";have p60:(10:Nat)^60<2^9000:=aj (show 10^60<2^200 by decide) (aB ze ze);have hne:1+u≠0:=by omega
  refine⟨t,1+u,rfl,hne,zZ,?_⟩;walk_at "w";have e:sizeLine=16777216:=by decide
  refine⟨zZ,h1 _ ⟨x3,qs++[Rat.divInt t (1+u)],_,_,by rw[List.map_append];rfl,hx3,by simp[hn],λq hq=>?_⟩⟩;rcases aH.mp hq with hq|hq
  . exact hi q hq
  . rw[bB.mp hq];exact⟨aQ (num_le hne) ht,aQ (den_le hne) zZ⟩
 . rintro Z ⟨ys,qs,x2,x3,rfl,hy,hn,hi⟩;walk_at "w";exact⟨_,back_own zY back0,h _ qs ys hy zZ hi⟩
def fs_law:FS:=λls ag=>∃ns:List Int,ls=[.d (.lst (ns.map .int))]/\ns.length<=63/\ag (.d (.bl true)) ls
theorem law_holds{ns:List Int}(hl:ns.length<=63):fs_law [.d (.lst (ns.map .int))] (λr _=>r=.d (.bl true)):=⟨ns,rfl,hl,rfl⟩
def b_law_0:W L:=(wBin opIx (wLst (aVal (wC (.str "on")) (aVal (wC (.str "back")) aNil))) (wCallB fs__law_take 0 1 (aVar 1 (aVal (wC (.int 2)) aNil))))
def c_law_b1_1:W Fl:=(wIf (wNot (wTest (wCall fs__law_ways (aVal (wFrz (wComp 1 [2] (wRng1 (wCallB fs__law_take 0 2 (aVar 2 (aVal (wC (.int 21)) aNil)))) (tgName 0) wTrue b_law_0)) aNil)))) (wRet (wC (.bl false))) wNext)
def c_law_b1_0:W Fl:=(wSeq (wIf (wNot (wTest (wCall fs__law_sending (aVal (wFrz (wCallB fs__law_parts 0 2 (aVar 2 aNil))) aNil)))) (wRet (wC (.bl false))) wNext)
  c_law_b1_1)
def b_law_1:W Fl:=(wSeq (wSet 2 (wCall fs__law_begun (aVal (wVar 0) (aVal (wVar 1) aNil))))
  c_law_b1_0)
def m_law:W Fl:=(wSeq (wFor (wRng1 (wCallD opMax (aVal (wC (.int 1)) (aVal (wFrz (wCallD opMin (aVal (wFrz (wCallD opLen (aVal (wVar 0) aNil))) (aVal (wC (.int 20)) aNil)))) aNil)))) (tgName 1) b_law_1)
  (wRet (wAndV (wCall fs__law_sending (aVal (wFrz (wLst aNil)) aNil)) (wAndV (wCall fs__law_ways (aVal (wFrz (wLst aNil)) aNil)) (wCall fs__law_longer (aVal (wCall fs__law_begun (aVal (wVar 0) (aVal (wC (.int 0)) aNil))) aNil))))))
theorem way_at{r:Int}(h0:0<=r)(h2:r < 2):∃ w,atI [D.str (Str.ofString "on"),D.str (Str.ofString "back")] r=some (.str (wayS w)):=by
 have:r=0∨r=1:=by omega
 rcases this with rfl|rfl
 . exact⟨true,atI_0⟩
 . exact⟨false,atI_1⟩
theorem body0{ns:List Int}{ag:Fl->Ev->Prop}{i:Nat}{x2:L}(hi:i<=62)(h:∀x1 x2,ag .nx [.d (.lst (ns.map .int)),x1,x2]) :
  b_law_1 [.d (.lst (ns.map .int)),.d (.int (0+(i:Int))),x2] ag:=by
 have e:sizeLine=16777216:=by decide
 unfold b_law_1;walk_at "w";refine⟨ns,0+(i:Int),rfl,zZ,zZ,λa xs hx=>?_⟩;walk_at "w";unfold c_law_b1_0;walk_at "w";refine⟨a,xs,rfl,hx,λb qs x0 h0 hl hq=>⟨x0,rfl,?_⟩⟩;walk_at "w";refine⟨qs,rfl,hl,hq,?_⟩;walk_at "w";unfold c_law_b1_1;walk_at "w";refine⟨a,x0,21,rfl,h0,ze,ze,λm x1 h1 m0 m1=>⟨x1,rfl,?_⟩⟩;walk_at "w";have hl:(rngD 0 m.toNat).length=m.toNat:=by simp[rngD]
 refine⟨⟨zZ,zZ⟩,zZ,?_⟩;refine comp_inv _ (λj Z acc=>∃l ys ws,Z=[l,.own a ys]/\StOk ys/\acc=ws.map (λw=>D.str (wayS w))/\ws.length=j) _ [] ⟨_,x1,[],rfl,h1,rfl,rfl⟩ ?_ ?_
 . rintro j x Z acc hj ⟨l,ys,ws,rfl,hy,rfl,hn⟩ Q q1;unfold wTrue b_law_0;walk_at "w";refine⟨zZ,λ_=>⟨a,ys,2,rfl,hy,ze,ze,λr zs hz r0 r2=>⟨zs,rfl,?_⟩⟩⟩;obtain⟨w,ew⟩:=way_at r0 r2;walk_at "w";refine⟨_,ew,?_⟩;exact q1 _ _ ⟨_,zs,ws++[w],rfl,hz,zY,by simp[hn]⟩
 . rintro Z acc ⟨l,ys,ws,rfl,hy,rfl,hn⟩;walk_at "w";intro _;refine⟨ws,rfl,zZ,?_⟩;walk_at "w";exact h _ _
theorem sat_law:∀ls ag,ls.length=1->fs_law ls ag->m_law (ls++List.replicate 2 .un) (okEnd ls ag):=by
 rintro ls ag - ⟨ns,rfl,hl,h⟩;unfold m_law;walk_at "w"
 try rw[aC]
 have hm:∃m:Nat,(if(if(20:Int)<(ns.length:Int)then(20:Int)else(ns.length:Int)) > 1 then if(20:Int)<(ns.length:Int)then(20:Int)else(ns.length:Int)else 1)=(m:Int)/\m<=63:=by
  by_cases h1:(if(20:Int)<(ns.length:Int)then(20:Int)else(ns.length:Int)) > 1
  .
   rw[if_pos h1];by_cases h2:(20:Int)<(ns.length:Int)
   . rw[if_pos h2];exact⟨20,rfl,ze⟩
   . rw[if_neg h2];exact⟨ns.length,rfl,zZ⟩
  . rw[if_neg h1];exact⟨1,rfl,ze⟩
 obtain⟨m,hm,hm63⟩:=hm;rw[hm];refine⟨⟨zZ,zZ⟩,?_⟩;rw[Int.toNat_natCast];refine forR_inv 0 m (λ_ Z=>∃x1 x2,Z=[.d (.lst (ns.map .int)),x1,x2]) _ ⟨_,_,rfl⟩ ?_ ?_
 . rintro j Z hj ⟨x1,x2,rfl⟩ Q h1 h2 h3 h4;walk_at "w";exact body0 zZ λx1 x2=>h1 _ ⟨_,_,rfl⟩
 . rintro Z ⟨x1,x2,rfl⟩;walk_at "w";refine⟨ze,λ_=>⟨[],rfl,ze,(λs hs=>by cases hs),?_⟩⟩;walk_at "w";refine⟨ze,λ_=>⟨[],rfl,ze,?_⟩⟩;walk_at "w";refine⟨ns,0,rfl,ze,ze,λa xs hx=>?_⟩;refine⟨a,xs,rfl,hx,λys=>?_⟩;exact⟨_,back_d back0,h⟩
noncomputable abbrev s_xi_LoadError:Stmt:=Hd.inCls (Hd.top 1) 0
noncomputable abbrev fd_xi_LoadError:FuncData:=fdQ "__init__" "LoadError.__init__" s_xi_LoadError (.str "ringloads.errors" 187) 27
noncomputable abbrev s_xi_NoText:Stmt:=Hd.inCls (Hd.top 2) 0
noncomputable abbrev fd_xi_NoText:FuncData:=fdQ "__init__" "NoText.__init__" s_xi_NoText (.str "ringloads.errors" 187) 47
structure Tx (K:PySem.W.Frag) (mg:Str->Option Value) (ad:Nat->Addr) (fd:Nat->FuncData):Prop where
 x_greatest_shared:FX K mg "greatest_shared" s_greatest_shared (ad 0) (fd 0) ["one","other"]
 x_is_whole:FX K mg "is_whole" s_is_whole (ad 1) (fd 1) ["thing"]
 x_are_two_wholes:FX K mg "are_two_wholes" s_are_two_wholes (ad 2) (fd 2) ["thing"]
 x_is_ratio:FX K mg "is_ratio" s_is_ratio (ad 3) (fd 3) ["thing"]
 x_shown_ratio:FX K mg "shown_ratio" s_shown_ratio (ad 4) (fd 4) ["one"]
 x_whole_in:FX K mg "whole_in" s_whole_in (ad 5) (fd 5) ["text"]
 x_ratio_in:FX K mg "ratio_in" s_ratio_in (ad 6) (fd 6) ["text"]
 x_lowest:FX K mg "lowest" s_lowest (ad 7) (fd 7) ["top","bottom"]
 x_times:FX K mg "times" s_times (ad 8) (fd 8) ["one","other"]
 x_is_way:FX K mg "is_way" s_is_way (ad 9) (fd 9) ["thing"]
 x_shown_words:FX K mg "shown_words" s_shown_words (ad 10) (fd 10) ["words"]
 x_shown_sending:FX K mg "shown_sending" s_shown_sending (ad 11) (fd 11) ["some"]
 x_shown_ways:FX K mg "shown_ways" s_shown_ways (ad 12) (fd 12) ["ways"]
 x_way_in:FX K mg "way_in" s_way_in (ad 13) (fd 13) ["text"]
 x_read_list:FX K mg "read_list" s_read_list (ad 14) (fd 14) ["text","between","one_in"]
 x_read_sending:FX K mg "read_sending" s_read_sending (ad 15) (fd 15) ["text"]
 x_read_ways:FX K mg "read_ways" s_read_ways (ad 16) (fd 16) ["text"]
 x__law_begun:FX K mg "_law_begun" s__law_begun (ad 17) (fd 17) ["_law_script","_law_k"]
 x__law_plain:FX K mg "_law_plain" s__law_plain (ad 18) (fd 18) ["_law_one"]
 x__law_same:FX K mg "_law_same" s__law_same (ad 19) (fd 19) ["_law_told","_law_due"]
 x__law_text:FX K mg "_law_text" s__law_text (ad 20) (fd 20) ["_law_words"]
 x__law_ratio:FX K mg "_law_ratio" s__law_ratio (ad 21) (fd 21) ["_law_one"]
 x__law_sending:FX K mg "_law_sending" s__law_sending (ad 22) (fd 22) ["_law_parts_here"]
 x__law_ways:FX K mg "_law_ways" s__law_ways (ad 23) (fd 23) ["_law_ways_here"]
 x__law_take:FX K mg "_law_take" s__law_take (ad 24) (fd 24) ["_law_state","_law_many"]
 x__law_longer:FX K mg "_law_longer" s__law_longer (ad 25) (fd 25) ["_law_state"]
 x__law_number:FX K mg "_law_number" s__law_number (ad 26) (fd 26) ["_law_state"]
 x__law_low:FX K mg "_law_low" s__law_low (ad 27) (fd 27) ["_law_top","_law_bottom"]
 x__law_parts:FX K mg "_law_parts" s__law_parts (ad 28) (fd 28) ["_law_state"]
 x_law:FX K mg "law" s_law (ad 29) (fd 29) ["_law_script"]
 li:XLoad K mg 31 28 fd_xi_LoadError s_xi_LoadError
 i_NoText:Fun K "__init__" "NoText.__init__" s_xi_NoText 48 fd_xi_NoText
 c_NoText:XT K mg "NoText" 51 48 fd_xi_NoText ["self","row"] ["row"]
 h_NoText:XH K mg "NoText" 51
 z_ValueError:mg "ValueError"=none
 z_abs:mg "abs"=none
 z_all:mg "all"=none
 z_bool:mg "bool"=none
 z_int:mg "int"=none
 z_isinstance:mg "isinstance"=none
 z_len:mg "len"=none
 z_list:mg "list"=none
 z_max:mg "max"=none
 z_min:mg "min"=none
 z_range:mg "range"=none
 z_str:mg "str"=none
 z_tuple:mg "tuple"=none
 g_BACK:GlobT K mg "BACK" (.str "back")
 g_MOST_FIGURES:GlobT K mg "MOST_FIGURES" (.int 60)
 g_MOST_LISTED:GlobT K mg "MOST_LISTED" (.int 20)
 g_NOTHING:GlobT K mg "NOTHING" (.str "-")
 g_ON:GlobT K mg "ON" (.str "on")
 gf_ratio_in:GlobT K mg "ratio_in" (.gf "ratio_in")
 gf_way_in:GlobT K mg "way_in" (.gf "way_in")
section
variable{P:Program}{w:World}{K:PySem.W.Frag}{mg:Str->Option Value}{base:Heap}{ad:Nat->Addr}{fd:Nat->FuncData}
theorem sc_xi_LoadError:FnScope ["self","text"] ["self","text"] (defScope s_xi_LoadError):=⟨rfl,rfl,rfl,zd,rfl,zd,zd⟩
theorem sc_xi_NoText:FnScope ["self","row"] ["self","row"] (defScope s_xi_NoText):=⟨rfl,rfl,rfl,zd,rfl,zd,zd⟩
theorem xi_LoadError(T:Tx K mg ad fd):FnOk P w K mg base CX0 1 28 fd_xi_LoadError ["self","text"] (spLI K):=T.li.f.ok (k:=0) sc_xi_LoadError spLI_len (λcdv A outer s H vs Q E hr q=>⟨_,pss_one (ps_expr (pe_vinit rfl T.z_ValueError (pa_cons (pv 0) (pa_cons (pv 1) pa_nil)))),read_LI q⟩)
theorem xi_NoText(T:Tx K mg ad fd):FnOk P w K mg base CX0 2 48 fd_xi_NoText ["self","row"] (spXI K ["row"]):=T.i_NoText.ok (k:=1) sc_xi_NoText spXI_len (λcdv A outer s H vs Q E hr q=>⟨_,pss_cons (ps_expr (pe_linit T.li (xi_LoadError T) hr rfl (pa_cons (pv 0) (pa_cons pe_str pa_nil)))) (pss_one (ps_xset (pv 0) (pv 1))),read_I1 q⟩)
theorem sc_greatest_shared:FnScope N_greatest_shared ["one","other"] (defScope s_greatest_shared):=⟨rfl,rfl,rfl,zd,rfl,zd,zd⟩
theorem ok_greatest_shared(T:Tx K mg ad fd):FnOk P w K mg base CX0 1 (ad 0) (fd 0) ["one","other"] (spF K 2 fs_greatest_shared) :=
 fn_ok (k:=0) T.x_greatest_shared.f sc_greatest_shared m_greatest_shared (λcdv A outer s H E hr=>(pms_cons (pm_while PassesOwn.never (pbc (od_ne hr.units) (pl_var 1) pl_int (nomark _)) (pms_cons (pm_set (i:=2) sc_greatest_shared.nd rfl zX (pl_bin od_mod (pl_var 0) (pl_var 1)))
  (pms_cons (pm_set (i:=0) sc_greatest_shared.nd rfl zX (pl_var 1))
  (pms_one (pm_set (i:=1) sc_greatest_shared.nd rfl zX (pl_var 2))))))
  (pms_one (pm_ret (pl_callD cd_abs rfl T.z_abs zd (pal_val (pl_var 0) pal_nil))))))
  sat_greatest_shared
theorem sc_is_whole:FnScope N_is_whole ["thing"] (defScope s_is_whole):=⟨rfl,rfl,rfl,zd,rfl,zd,zd⟩
theorem ok_is_whole(T:Tx K mg ad fd):FnOk P w K mg base CX0 1 (ad 1) (fd 1) ["thing"] (spF K 1 fs_is_whole) :=
 fn_ok (k:=0) T.x_is_whole.f sc_is_whole m_is_whole (λcdv A outer s H E hr=>(pms_one (pm_ret (pl_and (pl_isT kit_int rfl T.z_isinstance rfl T.z_int zd (pl_var 0)) (pl_one (pl_not (pl_isT kit_bool rfl T.z_isinstance rfl T.z_bool zd (pl_var 0))))))))
  sat_is_whole
theorem sc_are_two_wholes:FnScope N_are_two_wholes ["thing"] (defScope s_are_two_wholes):=⟨rfl,rfl,rfl,zd,rfl,zd,zd⟩
theorem ok_are_two_wholes(T:Tx K mg ad fd):FnOk P w K mg base CX0 2 (ad 2) (fd 2) ["thing"] (spF K 1 fs_are_two_wholes) :=
 fn_ok (k:=1) T.x_are_two_wholes.f sc_are_two_wholes m_are_two_wholes (λcdv A outer s H E hr=>(pms_one (pm_ret (pl_and (pl_isT kit_tuple rfl T.z_isinstance rfl T.z_tuple zd (pl_var 0)) (pl_and (pl_cmp (od_eq hr.units) (pl_callD cd_len rfl T.z_len zd (pal_val (pl_var 0) pal_nil)) pl_int (nomark _)) (pl_and (pl_cx (ok_is_whole T) T.x_is_whole hr (pal_val (pl_ix (pl_var 0) pl_int (λ_ _=>rfl)) pal_nil)) (pl_one (pl_cx (ok_is_whole T) T.x_is_whole hr (pal_val (pl_ix (pl_var 0) pl_int (λ_ _=>rfl)) pal_nil)))))))))
  sat_are_two_wholes
theorem sc_is_ratio:FnScope N_is_ratio ["thing"] (defScope s_is_ratio):=⟨rfl,rfl,rfl,zd,rfl,zd,zd⟩
theorem ok_is_ratio(T:Tx K mg ad fd):FnOk P w K mg base CX0 3 (ad 3) (fd 3) ["thing"] (spF K 1 fs_is_ratio) :=
 fn_ok (k:=2) T.x_is_ratio.f sc_is_ratio m_is_ratio (λcdv A outer s H E hr=>(pms_one (pm_ret (pl_and (pl_cx (ok_are_two_wholes T) T.x_are_two_wholes hr (pal_val (pl_var 0) pal_nil)) (pl_and (pl_cmp od_ge (pl_ix (pl_var 0) pl_int (λ_ _=>rfl)) pl_int (nomark _)) (pl_one (pl_cmp (od_eq hr.units) (pl_cx (ok_greatest_shared T) T.x_greatest_shared hr (pal_val (pl_ix (pl_var 0) pl_int (λ_ _=>rfl)) (pal_val (pl_ix (pl_var 0) pl_int (λ_ _=>rfl)) pal_nil))) pl_int (nomark _))))))))
  sat_is_ratio
theorem sc_shown_ratio:FnScope N_shown_ratio ["one"] (defScope s_shown_ratio):=⟨rfl,rfl,rfl,zd,rfl,zd,zd⟩
theorem ok_shown_ratio(T:Tx K mg ad fd):FnOk P w K mg base CX0 1 (ad 4) (fd 4) ["one"] (spF K 1 fs_shown_ratio) :=
 fn_ok (k:=0) T.x_shown_ratio.f sc_shown_ratio m_shown_ratio (λcdv A outer s H E hr=>(pms_cons (pm_if (pbc (od_eq hr.units) (pl_ix (pl_var 0) pl_int (λ_ _=>rfl)) pl_int (nomark _)) (pms_one (pm_ret (pl_callTD cd_strI rfl T.z_str zd (pal_val (pl_ix (pl_var 0) pl_int (λ_ _=>rfl)) pal_nil)))) pms_nil)
  (pms_cons (pm_set (i:=1) sc_shown_ratio.nd rfl zX (pl_ix (pl_var 0) pl_int (λ_ _=>rfl)))
  (pms_cons (pm_set (i:=2) sc_shown_ratio.nd rfl zX (pl_ix (pl_var 0) pl_int (λ_ _=>rfl)))
  (pms_one (pm_ret (pl_fstr (pl_fmt (pl_var 1)) pl_str (.cons (pl_fmt (pl_var 2)) .nil))))))))
  sat_shown_ratio
theorem sc_whole_in:FnScope N_whole_in ["text"] (defScope s_whole_in):=⟨rfl,rfl,rfl,zd,rfl,zd,zd⟩
theorem ok_whole_in(T:Tx K mg ad fd):FnOk P w K mg base CX0 1 (ad 5) (fd 5) ["text"] (spF K 1 fs_whole_in) :=
 fn_ok (k:=0) T.x_whole_in.f sc_whole_in m_whole_in (λcdv A outer s H E hr=>(pms_cons (pm_set (i:=1) sc_whole_in.nd rfl zX (pl_frz (pl_ifE (pb_val (pl_starts (pl_var 0))) (pl_slice2 (pl_var 0) pl_int trivial) (pl_var 0))))
  (pms_cons (pm_if (PBw.pb (pbw_or (pb_not (pb_chain ci_le ci_le pl_int (pl_callD cd_len rfl T.z_len zd (pal_val (pl_var 1) pal_nil)) (pl_G T.g_MOST_FIGURES rfl))) (pbw_or1 (pb_not (pb_val (pl_callD (cd_all rfl) rfl T.z_all zd (pal_val (pl_frz (pl_comp (sc:=(defScope s_whole_in)) (N:=N_whole_in) (Nt:=["sign"]) (Nf:=[]) (fi:=[]) rfl rfl rfl (pil_str (pl_var 1)) rfl zd zd zd ze rfl zd ze (λ_ _ _ _=>(tc_name ze (show((["sign"]:List Str)++([]:List Str)).Nodup by decide +kernel) rfl (Or.inl rfl))) (λ_ _ _ _=>pif_nil) (λ_ _ _ _=>(pl_chainN pl_str (Links.cons od_le2 (pl_var 0) (Links.one od_le2 pl_str)))))) pal_nil))))))) (pms_one (pm_ret pl_non)) pms_nil)
  (pms_cons (pm_set (i:=2) sc_whole_in.nd rfl zX (pl_frz (pl_callTD cd_intT rfl T.z_int zd (pal_val (pl_var 0) pal_nil))))
  (pms_one (pm_ret (pl_ifE (pbc od_eqS (pl_callTD cd_strI rfl T.z_str zd (pal_val (pl_var 2) pal_nil)) (pl_var 0) (nomark _)) (pl_var 2) pl_non)))))))
  sat_whole_in
theorem sc_ratio_in:FnScope N_ratio_in ["text"] (defScope s_ratio_in):=⟨rfl,rfl,rfl,zd,rfl,zd,zd⟩
theorem ok_ratio_in(T:Tx K mg ad fd):FnOk P w K mg base CX0 4 (ad 6) (fd 6) ["text"] (spF K 1 fs_ratio_in) :=
 fn_ok (k:=3) T.x_ratio_in.f sc_ratio_in m_ratio_in (λcdv A outer s H E hr=>(pms_cons (pm_set (i:=1) sc_ratio_in.nd rfl zX (pl_frz (pl_callTD cd_tuple rfl T.z_tuple zd (pal_val (pl_frz (pl_comp (sc:=(defScope s_ratio_in)) (N:=N_ratio_in) (Nt:=["part"]) (Nf:=[]) (fi:=[]) rfl rfl rfl (pil_seq (pl_split (pl_var 0))) rfl zd zd zd ze rfl zd ze (λ_ _ _ _=>(tc_name ze (show((["part"]:List Str)++([]:List Str)).Nodup by decide +kernel) rfl (Or.inl rfl))) (λ_ _ _ _=>pif_nil) (λ_ _ _ _=>(pl_cx (ok_whole_in T) T.x_whole_in hr (pal_val (pl_var 0) pal_nil))))) pal_nil))))
  (pms_cons (pm_if (pbc (od_eq hr.units) (pl_callD cd_len rfl T.z_len zd (pal_val (pl_var 1) pal_nil)) pl_int (nomark _)) (pms_one (pm_set (i:=1) sc_ratio_in.nd rfl zX (pl_frz (pl_bin od_addT (pl_var 1) (pl_tup (pal_val pl_int pal_nil)))))) pms_nil)
  (pms_one (pm_ret (pl_ifE (PBw.pb (pbw_and (pb_val (pl_cx (ok_is_ratio T) T.x_is_ratio hr (pal_val (pl_var 1) pal_nil))) (pbw_and1 (pbc (od_eq hr.units) (pl_cx (ok_shown_ratio T) T.x_shown_ratio hr (pal_val (pl_var 1) pal_nil)) (pl_var 0) (nomark _))))) (pl_var 1) pl_non))))))
  sat_ratio_in
theorem sc_lowest:FnScope N_lowest ["top","bottom"] (defScope s_lowest):=⟨rfl,rfl,rfl,zd,rfl,zd,zd⟩
theorem ok_lowest(T:Tx K mg ad fd):FnOk P w K mg base CX0 2 (ad 7) (fd 7) ["top","bottom"] (spF K 2 fs_lowest) :=
 fn_ok (k:=1) T.x_lowest.f sc_lowest m_lowest (λcdv A outer s H E hr=>(pms_cons (pm_set (i:=2) sc_lowest.nd rfl zX (pl_frz (pl_cx (ok_greatest_shared T) T.x_greatest_shared hr (pal_val (pl_var 0) (pal_val (pl_var 1) pal_nil)))))
  (pms_cons (pm_if (pbc od_lt (pl_var 1) pl_int (nomark _)) (pms_one (pm_set (i:=2) sc_lowest.nd rfl zX (pl_neg (pl_var 2)))) pms_nil)
  (pms_one (pm_ret (pl_tup (pal_val (pl_bin od_div (pl_var 0) (pl_var 2)) (pal_val (pl_bin od_div (pl_var 1) (pl_var 2)) pal_nil))))))))
  sat_lowest
theorem sc_times:FnScope N_times ["one","other"] (defScope s_times):=⟨rfl,rfl,rfl,zd,rfl,zd,zd⟩
theorem ok_times(T:Tx K mg ad fd):FnOk P w K mg base CX0 3 (ad 8) (fd 8) ["one","other"] (spF K 2 fs_times) :=
 fn_ok (k:=2) T.x_times.f sc_times m_times (λcdv A outer s H E hr=>(pms_one (pm_ret (pl_cx (ok_lowest T) T.x_lowest hr (pal_val (pl_frz (pl_bin od_mulI (pl_ix (pl_var 0) pl_int (λ_ _=>rfl)) (pl_ix (pl_var 1) pl_int (λ_ _=>rfl)))) (pal_val (pl_frz (pl_bin od_mulI (pl_ix (pl_var 0) pl_int (λ_ _=>rfl)) (pl_ix (pl_var 1) pl_int (λ_ _=>rfl)))) pal_nil))))))
  sat_times
theorem sc_is_way:FnScope N_is_way ["thing"] (defScope s_is_way):=⟨rfl,rfl,rfl,zd,rfl,zd,zd⟩
theorem ok_is_way(T:Tx K mg ad fd):FnOk P w K mg base CX0 1 (ad 9) (fd 9) ["thing"] (spF K 1 fs_is_way) :=
 fn_ok (k:=0) T.x_is_way.f sc_is_way m_is_way (λcdv A outer s H E hr=>(pms_one (pm_ret (pl_and (pl_isT kit_str rfl T.z_isinstance rfl T.z_str zd (pl_var 0)) (pl_one (pl_cmp od_in (pl_var 0) (pl_tup (pal_val (pl_G T.g_ON rfl) (pal_val (pl_G T.g_BACK rfl) pal_nil))) rfl))))))
  sat_is_way
theorem sc_shown_words:FnScope N_shown_words ["words"] (defScope s_shown_words):=⟨rfl,rfl,rfl,zd,rfl,zd,zd⟩
theorem ok_shown_words(T:Tx K mg ad fd):FnOk P w K mg base CX0 1 (ad 10) (fd 10) ["words"] (spF K 1 fs_shown_words) :=
 fn_ok (k:=0) T.x_shown_words.f sc_shown_words m_shown_words (λcdv A outer s H E hr=>(pms_one (pm_ret (pl_ifE (pb_truD 0) (pl_join (pl_var 0)) (pl_G T.g_NOTHING rfl)))))
  sat_shown_words
theorem sc_shown_sending:FnScope N_shown_sending ["some"] (defScope s_shown_sending):=⟨rfl,rfl,rfl,zd,rfl,zd,zd⟩
theorem ok_shown_sending(T:Tx K mg ad fd):FnOk P w K mg base CX0 2 (ad 11) (fd 11) ["some"] (spF K 1 fs_shown_sending) :=
 fn_ok (k:=1) T.x_shown_sending.f sc_shown_sending m_shown_sending (λcdv A outer s H E hr=>(pms_one (pm_ret (pl_cx (ok_shown_words T) T.x_shown_words hr (pal_val (pl_frz (pl_comp (sc:=(defScope s_shown_sending)) (N:=N_shown_sending) (Nt:=["part"]) (Nf:=[]) (fi:=[]) rfl rfl rfl (pil_seq (pl_var 0)) rfl zd zd zd ze rfl zd ze (λ_ _ _ _=>(tc_name ze (show((["part"]:List Str)++([]:List Str)).Nodup by decide +kernel) rfl (Or.inl rfl))) (λ_ _ _ _=>pif_nil) (λ_ _ _ _=>(pl_cx (ok_shown_ratio T) T.x_shown_ratio hr (pal_val (pl_var 0) pal_nil))))) pal_nil)))))
  sat_shown_sending
theorem sc_shown_ways:FnScope N_shown_ways ["ways"] (defScope s_shown_ways):=⟨rfl,rfl,rfl,zd,rfl,zd,zd⟩
theorem ok_shown_ways(T:Tx K mg ad fd):FnOk P w K mg base CX0 2 (ad 12) (fd 12) ["ways"] (spF K 1 fs_shown_ways) :=
 fn_ok (k:=1) T.x_shown_ways.f sc_shown_ways m_shown_ways (λcdv A outer s H E hr=>(pms_one (pm_ret (pl_cx (ok_shown_words T) T.x_shown_words hr (pal_val (pl_var 0) pal_nil)))))
  sat_shown_ways
theorem sc_way_in:FnScope N_way_in ["text"] (defScope s_way_in):=⟨rfl,rfl,rfl,zd,rfl,zd,zd⟩
theorem ok_way_in(T:Tx K mg ad fd):FnOk P w K mg base CX0 2 (ad 13) (fd 13) ["text"] (spF K 1 fs_way_in) :=
 fn_ok (k:=1) T.x_way_in.f sc_way_in m_way_in (λcdv A outer s H E hr=>(pms_one (pm_ret (pl_ifE (pb_val (pl_cx (ok_is_way T) T.x_is_way hr (pal_val (pl_var 0) pal_nil))) (pl_var 0) pl_non))))
  sat_way_in
theorem sc_read_list:FnScope N_read_list ["text","between","one_in"] (defScope s_read_list):=⟨rfl,rfl,rfl,zd,rfl,zd,zd⟩
theorem ok_read_list(T:Tx K mg ad fd):FnOk P w K mg base (CXr P w) 5 (ad 14) (fd 14) ["text","between","one_in"] (spX K 3 fs_read_list) :=
 fn_okX (k:=4) T.x_read_list.f sc_read_list (λxp=>m_read_list xp) (λcdv A outer s H E xp hr hE=>(pms_cons (pm_if (pb_not (pb_val (pl_isT kit_str rfl T.z_isinstance rfl T.z_str zd (pl_var 0)))) (pms_one (pm_raiseF T.c_NoText (xi_NoText T) hr (xok_def hE) (pal_val pl_int pal_nil))) pms_nil)
  (pms_cons (pm_if (pbc (od_eq hr.units) (pl_var 0) (pl_G T.g_NOTHING rfl) (nomark _)) (pms_one (pm_ret (pl_lst pal_nil))) pms_nil)
  (pms_cons (pm_setC sc_read_list.nd (j:=3) rfl zX (sc:=(defScope s_read_list)) (N:=N_read_list) (Nt:=["part"]) (Nf:=["one_in"]) (fi:=[2]) rfl rfl rfl (pil_seq (pl_splitV 1 (pl_var 0))) rfl zd zd zd ze rfl zd ze (λ_ _ _ _=>(tc_name ze (show((["part"]:List Str)++(["one_in"]:List Str)).Nodup by decide +kernel) rfl (Or.inl rfl))) (λ_ _ _ _=>pif_nil) (λ_ _ _ _=>(pl_or2 (pl_callGf (ok_ratio_in T) T.x_ratio_in hr 1 (pal_val (pl_var 0) pal_nil)) (pl_callGf (ok_way_in T) T.x_way_in hr 1 (pal_val (pl_var 0) pal_nil)))))
  (pms_cons (pm_if (PBw.pb (pbw_or (pbc od_gt (pl_own (pl_lenV 3 rfl T.z_len) (pl_callD cd_len rfl T.z_len PySem.boot_len (pal_val (pl_var 3) pal_nil))) (pl_G T.g_MOST_LISTED rfl) (nomark _)) (pbw_or1 (pb_peek 3 (pbc (od_inS hr.units) pl_non (pl_var 3) rfl))))) (pms_one (pm_raiseF T.c_NoText (xi_NoText T) hr (xok_def hE) (pal_val pl_int pal_nil))) pms_nil)
  (pms_one (pm_ret (pl_move 3))))))))
  sat_read_list
theorem sc_read_sending:FnScope N_read_sending ["text"] (defScope s_read_sending):=⟨rfl,rfl,rfl,zd,rfl,zd,zd⟩
theorem ok_read_sending(T:Tx K mg ad fd):FnOk P w K mg base (CXr P w) 6 (ad 15) (fd 15) ["text"] (spX K 1 fs_read_sending) :=
 fn_okX (k:=5) T.x_read_sending.f sc_read_sending (λxp=>m_read_sending xp) (λcdv A outer s H E xp hr hE=>(pms_one (pm_ret (pl_cxX (ok_read_list T) T.x_read_list hr (xok_def hE) (pal_val (pl_var 0) (pal_val pl_str (pal_val (pl_G T.gf_ratio_in rfl) pal_nil)))))))
  sat_read_sending
theorem sc_read_ways:FnScope N_read_ways ["text"] (defScope s_read_ways):=⟨rfl,rfl,rfl,zd,rfl,zd,zd⟩
theorem ok_read_ways(T:Tx K mg ad fd):FnOk P w K mg base (CXr P w) 6 (ad 16) (fd 16) ["text"] (spX K 1 fs_read_ways) :=
 fn_okX (k:=5) T.x_read_ways.f sc_read_ways (λxp=>m_read_ways xp) (λcdv A outer s H E xp hr hE=>(pms_one (pm_ret (pl_cxX (ok_read_list T) T.x_read_list hr (xok_def hE) (pal_val (pl_var 0) (pal_val pl_str (pal_val (pl_G T.gf_way_in rfl) pal_nil)))))))
  sat_read_ways
theorem sc__law_begun:FnScope N__law_begun ["_law_script","_law_k"] (defScope s__law_begun):=⟨rfl,rfl,rfl,zd,rfl,zd,zd⟩
theorem ok__law_begun(T:Tx K mg ad fd):FnOk P w K mg base CX0 1 (ad 17) (fd 17) ["_law_script","_law_k"] (spF K 2 fs__law_begun) :=
 fn_ok (k:=0) T.x__law_begun.f sc__law_begun m__law_begun (λcdv A outer s H E hr=>(pms_cons (pm_set (i:=2) sc__law_begun.nd rfl zX pl_int)
  (pms_cons (pm_if (pbc od_lt (pl_var 1) (pl_callD cd_len rfl T.z_len zd (pal_val (pl_var 0) pal_nil)) (nomark _)) (pms_one (pm_set (i:=2) sc__law_begun.nd rfl zX (pl_ix (pl_var 0) (pl_var 1) (λ_ _=>rfl)))) pms_nil)
  (pms_one (pm_ret (pl_lst (pal_val (pl_var 2) (pal_val (pl_bin od_mod (pl_bin od_add (pl_bin od_add (pl_bin od_mod (pl_var 2) pl_int) (pl_bin od_mulI (pl_bin od_mulI pl_int (pl_var 1)) (pl_var 1))) pl_int) pl_int) (pal_val (pl_cmp od_ge (pl_var 2) (pl_bin od_pow pl_int pl_int) (nomark _)) pal_nil)))))))))
  sat__law_begun
theorem sc__law_plain:FnScope N__law_plain ["_law_one"] (defScope s__law_plain):=⟨rfl,rfl,rfl,zd,rfl,zd,zd⟩
theorem ok__law_plain(T:Tx K mg ad fd):FnOk P w K mg base CX0 1 (ad 18) (fd 18) ["_law_one"] (spF K 1 fs__law_plain) :=
 fn_ok (k:=0) T.x__law_plain.f sc__law_plain m__law_plain (λcdv A outer s H E hr=>(pms_cons (pm_if (pb_val (pl_isT kit_str rfl T.z_isinstance rfl T.z_str zd (pl_var 0))) (pms_one (pm_ret pl_bl)) pms_nil)
  (pms_one (pm_ret (pl_and (pl_isT kit_tuple rfl T.z_isinstance rfl T.z_tuple zd (pl_var 0)) (pl_one (pl_not (pl_cmp od_in pl_bl (pl_comp (sc:=(defScope s__law_plain)) (N:=N__law_plain) (Nt:=["_law_part"]) (Nf:=[]) (fi:=[]) rfl rfl rfl (pil_seq (pl_var 0)) rfl zd zd zd ze rfl zd ze (λ_ _ _ _=>(tc_name ze (show((["_law_part"]:List Str)++([]:List Str)).Nodup by decide +kernel) rfl (Or.inl rfl))) (λ_ _ _ _=>pif_nil) (λ_ _ _ _=>(pl_isT kit_bool rfl T.z_isinstance rfl T.z_bool zd (pl_var 0)))) rfl))))))))
  sat__law_plain
theorem sc__law_same:FnScope N__law_same ["_law_told","_law_due"] (defScope s__law_same):=⟨rfl,rfl,rfl,zd,rfl,zd,zd⟩
theorem ok__law_same(T:Tx K mg ad fd):FnOk P w K mg base CX0 2 (ad 19) (fd 19) ["_law_told","_law_due"] (spF K 2 fs__law_same) :=
 fn_ok (k:=1) T.x__law_same.f sc__law_same m__law_same (λcdv A outer s H E hr=>(pms_one (pm_ret (pl_and (pl_isT kit_list rfl T.z_isinstance rfl T.z_list zd (pl_var 0)) (pl_and (pl_cmp (od_eq hr.units) (pl_var 0) (pl_var 1) (nomark _)) (pl_one (pl_cmp (od_eq hr.units) (pl_comp (sc:=(defScope s__law_same)) (N:=N__law_same) (Nt:=["_law_one"]) (Nf:=[]) (fi:=[]) rfl rfl rfl (pil_seq (pl_var 0)) rfl zd zd zd ze rfl zd ze (λ_ _ _ _=>(tc_name ze (show((["_law_one"]:List Str)++([]:List Str)).Nodup by decide +kernel) rfl (Or.inl rfl))) (λ_ _ _ _=>(pif_one (pb_not (pb_val (pl_cx (ok__law_plain T) T.x__law_plain hr (pal_val (pl_var 0) pal_nil)))))) (λ_ _ _ _=>(pl_var 0))) (pl_lst pal_nil) (nomark _))))))))
  sat__law_same
theorem sc__law_text:FnScope N__law_text ["_law_words"] (defScope s__law_text):=⟨rfl,rfl,rfl,zd,rfl,zd,zd⟩
theorem ok__law_text(T:Tx K mg ad fd):FnOk P w K mg base CX0 1 (ad 20) (fd 20) ["_law_words"] (spF K 1 fs__law_text) :=
 fn_ok (k:=0) T.x__law_text.f sc__law_text m__law_text (λcdv A outer s H E hr=>(pms_cons (pm_if (pbc (od_eq hr.units) (pl_var 0) (pl_lst pal_nil) (nomark _)) (pms_one (pm_ret pl_str)) pms_nil)
  (pms_one (pm_ret (pl_join (pl_var 0))))))
  sat__law_text
theorem sc__law_ratio:FnScope N__law_ratio ["_law_one"] (defScope s__law_ratio):=⟨rfl,rfl,rfl,zd,rfl,zd,zd⟩
theorem ok__law_ratio(T:Tx K mg ad fd):FnOk P w K mg base CX0 1 (ad 21) (fd 21) ["_law_one"] (spF K 1 fs__law_ratio) :=
 fn_ok (k:=0) T.x__law_ratio.f sc__law_ratio m__law_ratio (λcdv A outer s H E hr=>(pms_cons (pm_if (pbc (od_eq hr.units) (pl_ix (pl_var 0) pl_int (λ_ _=>rfl)) pl_int (nomark _)) (pms_one (pm_ret (pl_callTD cd_strI rfl T.z_str zd (pal_val (pl_ix (pl_var 0) pl_int (λ_ _=>rfl)) pal_nil)))) pms_nil)
  (pms_one (pm_ret (pl_bin od_add (pl_bin od_add (pl_callTD cd_strI rfl T.z_str zd (pal_val (pl_ix (pl_var 0) pl_int (λ_ _=>rfl)) pal_nil)) pl_str) (pl_callTD cd_strI rfl T.z_str zd (pal_val (pl_ix (pl_var 0) pl_int (λ_ _=>rfl)) pal_nil)))))))
  sat__law_ratio
theorem sc__law_sending:FnScope N__law_sending ["_law_parts_here"] (defScope s__law_sending):=⟨rfl,rfl,rfl,zd,rfl,zd,zd⟩
theorem ok__law_sending(T:Tx K mg ad fd):FnOk P w K mg base CX0 7 (ad 22) (fd 22) ["_law_parts_here"] (spF K 1 fs__law_sending) :=
 fn_ok (k:=6) T.x__law_sending.f sc__law_sending m__law_sending (λcdv A outer s H E hr=>(pms_cons (pm_set (i:=1) sc__law_sending.nd rfl zX (pl_frz (pl_callTD cd_list rfl T.z_list zd (pal_val (pl_var 0) pal_nil))))
  (pms_cons (pm_set (i:=2) sc__law_sending.nd rfl zX (pl_frz (pl_cx (ok_shown_sending T) T.x_shown_sending hr (pal_val (pl_var 1) pal_nil))))
  (pms_cons (pm_if (PBw.pb (pbw_or (pb_not (pb_val (pl_isT kit_str rfl T.z_isinstance rfl T.z_str zd (pl_var 2)))) (pbw_or (pbc (od_ne hr.units) (pl_var 1) (pl_var 0) (nomark _)) (pbw_or1 (pbc (od_ne hr.units) (pl_var 2) (pl_cx (ok__law_text T) T.x__law_text hr (pal_val (pl_frz (pl_comp (sc:=(defScope s__law_sending)) (N:=N__law_sending) (Nt:=["_law_one"]) (Nf:=[]) (fi:=[]) rfl rfl rfl (pil_seq (pl_var 0)) rfl zd zd zd ze rfl zd ze (λ_ _ _ _=>(tc_name ze (show((["_law_one"]:List Str)++([]:List Str)).Nodup by decide +kernel) rfl (Or.inl rfl))) (λ_ _ _ _=>pif_nil) (λ_ _ _ _=>(pl_cx (ok__law_ratio T) T.x__law_ratio hr (pal_val (pl_var 0) pal_nil))))) pal_nil)) (nomark _)))))) (pms_one (pm_ret pl_bl)) pms_nil)
  (pms_cons (pm_set (i:=3) sc__law_sending.nd rfl zX (pl_cxX (ok_read_sending T) T.x_read_sending hr xok_no (pal_val (pl_var 2) pal_nil)))
  (pms_cons (pm_if (pb_not (pb_val (pl_peek 3 (pl_cx (ok__law_same T) T.x__law_same hr (pal_val (pl_var 3) (pal_val (pl_var 0) pal_nil)))))) (pms_one (pm_ret pl_bl)) pms_nil)
  (pms_cons (pm_expr (pl_clear 3))
  (pms_one (pm_ret (pl_cx (ok__law_same T) T.x__law_same hr (pal_val (pl_frz (pl_cxX (ok_read_sending T) T.x_read_sending hr xok_no (pal_val (pl_var 2) pal_nil))) (pal_val (pl_var 0) pal_nil))))))))))))
  sat__law_sending
theorem sc__law_ways:FnScope N__law_ways ["_law_ways_here"] (defScope s__law_ways):=⟨rfl,rfl,rfl,zd,rfl,zd,zd⟩
theorem ok__law_ways(T:Tx K mg ad fd):FnOk P w K mg base CX0 7 (ad 23) (fd 23) ["_law_ways_here"] (spF K 1 fs__law_ways) :=
 fn_ok (k:=6) T.x__law_ways.f sc__law_ways m__law_ways (λcdv A outer s H E hr=>(pms_cons (pm_set (i:=1) sc__law_ways.nd rfl zX (pl_frz (pl_callTD cd_list rfl T.z_list zd (pal_val (pl_var 0) pal_nil))))
  (pms_cons (pm_set (i:=2) sc__law_ways.nd rfl zX (pl_frz (pl_cx (ok_shown_ways T) T.x_shown_ways hr (pal_val (pl_var 1) pal_nil))))
  (pms_cons (pm_if (PBw.pb (pbw_or (pb_not (pb_val (pl_isT kit_str rfl T.z_isinstance rfl T.z_str zd (pl_var 2)))) (pbw_or (pbc (od_ne hr.units) (pl_var 1) (pl_var 0) (nomark _)) (pbw_or1 (pbc (od_ne hr.units) (pl_var 2) (pl_cx (ok__law_text T) T.x__law_text hr (pal_val (pl_var 0) pal_nil)) (nomark _)))))) (pms_one (pm_ret pl_bl)) pms_nil)
  (pms_cons (pm_set (i:=3) sc__law_ways.nd rfl zX (pl_cxX (ok_read_ways T) T.x_read_ways hr xok_no (pal_val (pl_var 2) pal_nil)))
  (pms_cons (pm_if (pb_not (pb_val (pl_peek 3 (pl_cx (ok__law_same T) T.x__law_same hr (pal_val (pl_var 3) (pal_val (pl_var 0) pal_nil)))))) (pms_one (pm_ret pl_bl)) pms_nil)
  (pms_cons (pm_expr (pl_clear 3))
  (pms_one (pm_ret (pl_cx (ok__law_same T) T.x__law_same hr (pal_val (pl_frz (pl_cxX (ok_read_ways T) T.x_read_ways hr xok_no (pal_val (pl_var 2) pal_nil))) (pal_val (pl_var 0) pal_nil))))))))))))
  sat__law_ways
theorem sc__law_take:FnScope N__law_take ["_law_state","_law_many"] (defScope s__law_take):=⟨rfl,rfl,rfl,zd,rfl,zd,zd⟩
theorem ok__law_take(T:Tx K mg ad fd):FnOk P w K mg base CX0 1 (ad 24) (fd 24) ["_law_state","_law_many"] (spF K 2 fs__law_take) :=
 fn_ok (k:=0) T.x__law_take.f sc__law_take m__law_take (λcdv A outer s H E hr=>(pms_cons (pm_if (pb_val (pl_own (pl_ixV 0 pl_int (λ_ _=>rfl)) (pl_ix (pl_var 0) pl_int (λ_ _=>rfl)))) (pms_cons (pm_set (i:=2) sc__law_take.nd rfl zX (pl_bin od_mod (pl_own (pl_ixV 0 pl_int (λ_ _=>rfl)) (pl_ix (pl_var 0) pl_int (λ_ _=>rfl))) (pl_var 1)))
  (pms_cons (pm_setV 0 pl_int (pl_bin od_div (pl_own (pl_ixV 0 pl_int (λ_ _=>rfl)) (pl_ix (pl_var 0) pl_int (λ_ _=>rfl))) (pl_var 1)))
  (pms_cons (pm_setV 0 pl_int (pl_cmp od_gt (pl_own (pl_ixV 0 pl_int (λ_ _=>rfl)) (pl_ix (pl_var 0) pl_int (λ_ _=>rfl))) pl_int (nomark _)))
  (pms_one (pm_ret (pl_move 2)))))) pms_nil)
  (pms_cons (pm_set (i:=3) sc__law_take.nd rfl zX pl_int)
  (pms_cons (pm_for PassesOwn.never rfl (pil_rng1 rfl T.z_range (pl_bin od_add pl_int (pl_bin od_mulI pl_int (pl_callTD cd_int rfl T.z_int zd (pal_val (pl_cmp od_gt (pl_var 1) (pl_bin od_pow pl_int pl_int) (nomark _)) pal_nil))))) (tg_name (i:=4) sc__law_take.nd rfl zX) (pms_cons (pm_setV 0 pl_int (pl_bin od_mod (pl_bin od_add (pl_bin od_mulI (pl_own (pl_ixV 0 pl_int (λ_ _=>rfl)) (pl_ix (pl_var 0) pl_int (λ_ _=>rfl))) pl_int) pl_int) pl_int))
  (pms_one (pm_set (i:=3) sc__law_take.nd rfl zX (pl_frz (pl_bin od_add (pl_bin od_mulI (pl_var 3) pl_int) (pl_bin od_mod (pl_bin od_mulI (pl_own (pl_ixV 0 pl_int (λ_ _=>rfl)) (pl_ix (pl_var 0) pl_int (λ_ _=>rfl))) (pl_own (pl_ixV 0 pl_int (λ_ _=>rfl)) (pl_ix (pl_var 0) pl_int (λ_ _=>rfl)))) pl_int)))))))
  (pms_one (pm_ret (pl_bin od_mod (pl_bin od_div (pl_var 3) pl_int) (pl_var 1))))))))
  sat__law_take
theorem sc__law_longer:FnScope N__law_longer ["_law_state"] (defScope s__law_longer):=⟨rfl,rfl,rfl,zd,rfl,zd,zd⟩
theorem ok__law_longer(T:Tx K mg ad fd):FnOk P w K mg base CX0 7 (ad 25) (fd 25) ["_law_state"] (spF K 1 fs__law_longer) :=
 fn_ok (k:=6) T.x__law_longer.f sc__law_longer m__law_longer (λcdv A outer s H E hr=>by exact(@pms_cons _ _ _ _ _ (@pm_set _ _ _ 1 _ _ _ sc__law_longer.nd rfl zX (@pl_frz _ _ _ (pl_cx (ok_times T) T.x_times hr (@pal_val _ _ _ _ _ _ (@pl_tup _ _ _ _ _ _ (@pal_val _ _ _ _ _ _ (@pl_frz _ _ _ (@pl_bin _ _ _ _ _ _ _ _ od_add pl_int (@pl_bin _ _ _ _ _ _ _ _ od_mulI (@pl_bin _ _ _ _ _ _ _ _ od_pow pl_int pl_int) (@pl_bin _ _ _ _ _ _ _ _ od_add pl_int (pl_cxB (ok__law_take T) T.x__law_take hr 0 0 (pal_var 0 (@pal_val _ _ _ _ _ _ (@pl_bin _ _ _ _ _ _ _ _ od_pow pl_int pl_int) pal_nil zb))))))) (@pal_val _ _ _ _ _ _ pl_int pal_nil zb) zb)) (@pal_val _ _ _ _ _ _ (@pl_tup _ _ _ _ _ _ (@pal_val _ _ _ _ _ _ (@pl_frz _ _ _ (@pl_bin _ _ _ _ _ _ _ _ od_add (@pl_bin _ _ _ _ _ _ _ _ od_pow pl_int pl_int) pl_int)) (@pal_val _ _ _ _ _ _ (@pl_frz _ _ _ (@pl_bin _ _ _ _ _ _ _ _ od_add pl_int (pl_cxB (ok__law_take T) T.x__law_take hr 0 0 (pal_var 0 (@pal_val _ _ _ _ _ _ pl_int pal_nil zb))))) pal_nil zb) zb)) pal_nil zb) zb))) zb (by first | exact .inl rfl | exact .inr rfl)) (@pms_cons _ _ _ _ _ (@pm_set _ _ _ 2 _ _ _ sc__law_longer.nd rfl zX (@pl_frz _ _ _ (pl_cx (ok_shown_sending T) T.x_shown_sending hr (@pal_val _ _ _ _ _ _ (@pl_frz _ _ _ (@pl_lst _ _ _ _ _ (@pal_val _ _ _ _ _ _ (@pl_tup _ _ _ _ _ _ (@pal_val _ _ _ _ _ _ pl_int (@pal_val _ _ _ _ _ _ pl_int pal_nil zb) zb)) (@pal_val _ _ _ _ _ _ (pl_var 1) pal_nil zb) zb))) pal_nil zb))) zb (by first | exact .inl rfl | exact .inr rfl)) (@pms_cons _ _ _ _ _ (@pm_set _ _ _ 3 _ _ _ sc__law_longer.nd rfl zX pl_bl zb (by first | exact .inl rfl | exact .inr rfl)) (@pms_cons _ _ _ _ _ (pm_tryAs (i:=4) rfl rfl T.h_NoText rfl sc__law_longer.nd rfl rfl zX (λ_ _ xt=>(pmts_one (pmt_expr (plt_cx (ok_read_sending T) T.x_read_sending hr (@pal_val _ _ _ _ _ _ (pl_var 2) pal_nil zb))))) (λ_=>(@pms_one _ _ _ (@pm_set _ _ _ 3 _ _ _ sc__law_longer.nd rfl zX (pl_cmp (od_eq hr.units) (pl_fld (pl_var 4)) pl_int (nomark _)) zb (by first | exact .inl rfl | exact .inr rfl))))) (@pms_one _ _ _ (@pm_ret _ _ _ _ (pl_and (pl_var 3) (pl_one (pl_cmp (od_eq hr.units) (pl_var 2) (@pl_bin _ _ _ _ _ _ _ _ od_add pl_str (pl_cx (ok__law_ratio T) T.x__law_ratio hr (@pal_val _ _ _ _ _ _ (pl_var 1) pal_nil zb))) (nomark _)))))))))))
  sat__law_longer
theorem sc__law_number:FnScope N__law_number ["_law_state"] (defScope s__law_number):=⟨rfl,rfl,rfl,zd,rfl,zd,zd⟩
theorem ok__law_number(T:Tx K mg ad fd):FnOk P w K mg base CX0 2 (ad 26) (fd 26) ["_law_state"] (spF K 1 fs__law_number) :=
 fn_ok (k:=1) T.x__law_number.f sc__law_number m__law_number (λcdv A outer s H E hr=>(pms_cons (pm_set (i:=1) sc__law_number.nd rfl zX (pl_frz (pl_cxB (ok__law_take T) T.x__law_take hr 0 0 (pal_var 0 (pal_val (pl_ix (pl_lst (pal_val pl_int (pal_val pl_int (pal_val (pl_bin od_pow pl_int pl_int) (pal_val (pl_bin od_pow pl_int pl_int) pal_nil))))) (pl_cxB (ok__law_take T) T.x__law_take hr 0 0 (pal_var 0 (pal_val pl_int pal_nil))) (λ_ _=>rfl)) pal_nil)))))
  (pms_one (pm_ret (pl_ix (pl_lst (pal_val (pl_var 1) (pal_val (pl_bin od_sub pl_int (pl_var 1)) pal_nil))) (pl_cxB (ok__law_take T) T.x__law_take hr 0 0 (pal_var 0 (pal_val pl_int pal_nil))) (λ_ _=>rfl))))))
  sat__law_number
theorem sc__law_low:FnScope N__law_low ["_law_top","_law_bottom"] (defScope s__law_low):=⟨rfl,rfl,rfl,zd,rfl,zd,zd⟩
theorem ok__law_low(T:Tx K mg ad fd):FnOk P w K mg base CX0 1 (ad 27) (fd 27) ["_law_top","_law_bottom"] (spF K 2 fs__law_low) :=
 fn_ok (k:=0) T.x__law_low.f sc__law_low m__law_low (λcdv A outer s H E hr=>(pms_cons (pm_set (i:=2) sc__law_low.nd rfl zX (pl_frz (pl_callD cd_abs rfl T.z_abs zd (pal_val (pl_var 0) pal_nil))))
  (pms_cons (pm_set (i:=3) sc__law_low.nd rfl zX (pl_frz (pl_callD cd_abs rfl T.z_abs zd (pal_val (pl_var 1) pal_nil))))
  (pms_cons (pm_while PassesOwn.never (pbc (od_ne hr.units) (pl_var 2) pl_int (nomark _)) (pms_one (pm_par (i:=2) (j:=3) rfl sc__law_low.nd rfl rfl ze rfl rfl (pl_bin od_mod (pl_var 3) (pl_var 2)) (pl_var 2) rfl)))
  (pms_cons (pm_if (pbc od_lt (pl_var 1) pl_int (nomark _)) (pms_one (pm_set (i:=3) sc__law_low.nd rfl zX (pl_bin od_sub pl_int (pl_var 3)))) pms_nil)
  (pms_one (pm_ret (pl_tup (pal_val (pl_bin od_div (pl_var 0) (pl_var 3)) (pal_val (pl_bin od_div (pl_var 1) (pl_var 3)) pal_nil))))))))))
  sat__law_low
theorem sc__law_parts:FnScope N__law_parts ["_law_state"] (defScope s__law_parts):=⟨rfl,rfl,rfl,zd,rfl,zd,zd⟩
theorem ok__law_parts(T:Tx K mg ad fd):FnOk P w K mg base CX0 3 (ad 28) (fd 28) ["_law_state"] (spF K 1 fs__law_parts) :=
 fn_ok (k:=2) T.x__law_parts.f sc__law_parts m__law_parts (λcdv A outer s H E hr=>(pms_cons (pm_set (i:=1) sc__law_parts.nd rfl zX (pl_lst pal_nil))
  (pms_cons (pm_for PassesOwn.never rfl (pil_rng1 rfl T.z_range (pl_cxB (ok__law_take T) T.x__law_take hr 0 0 (pal_var 0 (pal_val pl_int pal_nil)))) (tg_name (i:=2) sc__law_parts.nd rfl zX) (pms_cons (pm_set (i:=3) sc__law_parts.nd rfl zX (pl_frz (pl_cxB (ok__law_number T) T.x__law_number hr 0 0 (pal_var 0 pal_nil))))
  (pms_one (pm_expr (pl_append 1 (pl_cx (ok__law_low T) T.x__law_low hr (pal_val (pl_var 3) (pal_val (pl_frz (pl_bin od_add pl_int (pl_cxB (ok__law_take T) T.x__law_take hr 0 0 (pal_var 0 (pal_val (pl_ix (pl_lst (pal_val pl_int (pal_val pl_int (pal_val (pl_bin od_pow pl_int pl_int) (pal_val (pl_bin od_sub (pl_bin od_pow pl_int pl_int) pl_int) pal_nil))))) (pl_cxB (ok__law_take T) T.x__law_take hr 0 0 (pal_var 0 (pal_val pl_int pal_nil))) (λ_ _=>rfl)) pal_nil))))) pal_nil))))))))
  (pms_one (pm_ret (pl_move 1))))))
  sat__law_parts
theorem sc_law:FnScope N_law ["_law_script"] (defScope s_law):=⟨rfl,rfl,rfl,zd,rfl,zd,zd⟩
theorem ok_law(T:Tx K mg ad fd):FnOk P w K mg base CX0 8 (ad 29) (fd 29) ["_law_script"] (spF K 1 fs_law) :=
 fn_ok (k:=7) T.x_law.f sc_law m_law (λcdv A outer s H E hr=>by exact(@pms_cons _ _ _ _ _ (pm_for PassesOwn.never rfl (pil_rng1 rfl T.z_range (pl_callD (cd_max rfl) rfl T.z_max zd (@pal_val _ _ _ _ _ _ pl_int (@pal_val _ _ _ _ _ _ (@pl_frz _ _ _ (pl_callD (cd_min rfl) rfl T.z_min zd (@pal_val _ _ _ _ _ _ (@pl_frz _ _ _ (pl_callD cd_len rfl T.z_len zd (@pal_val _ _ _ _ _ _ (pl_var 0) pal_nil zb))) (@pal_val _ _ _ _ _ _ pl_int pal_nil zb) zb))) pal_nil zb) zb))) (tg_name (i:=1) sc_law.nd rfl zX) (@pms_cons _ _ _ _ _ (@pm_set _ _ _ 2 _ _ _ sc_law.nd rfl zX (pl_cx (ok__law_begun T) T.x__law_begun hr (@pal_val _ _ _ _ _ _ (pl_var 0) (@pal_val _ _ _ _ _ _ (pl_var 1) pal_nil zb) zb)) zb (by first | exact .inl rfl | exact .inr rfl)) (@pms_cons _ _ _ _ _ (@pm_if _ _ _ _ _ _ _ _ (pb_not (pb_val (pl_cx (ok__law_sending T) T.x__law_sending hr (@pal_val _ _ _ _ _ _ (@pl_frz _ _ _ (pl_cxB (ok__law_parts T) T.x__law_parts hr 0 2 (pal_var 2 pal_nil))) pal_nil zb)))) (@pms_one _ _ _ (@pm_ret _ _ _ _ pl_bl)) pms_nil) (@pms_one _ _ _ (@pm_if _ _ _ _ _ _ _ _ (pb_not (pb_val (pl_cx (ok__law_ways T) T.x__law_ways hr (@pal_val _ _ _ _ _ _ (@pl_frz _ _ _ (pl_comp (sc:=(defScope s_law)) (N:=N_law) (Nt:=[ "_law_k" ]) (Nf:=[ "_law_state" ]) (fi:=[2]) rfl rfl rfl (pil_rng1 rfl T.z_range (pl_cxB (ok__law_take T) T.x__law_take hr 0 2 (pal_var 2 (@pal_val _ _ _ _ _ _ pl_int pal_nil zb)))) rfl zd zd zd ze rfl zd ze (λ_ _ _ _=>(tc_name ze (show(([ "_law_k" ]:List Str)++([ "_law_state" ]:List Str)).Nodup by decide +kernel) rfl (Or.inl rfl))) (λ_ _ _ _=>pif_nil) (λ_ _ _ _=>(@pl_ix _ _ _ _ _ _ (@pl_lst _ _ _ _ _ (@pal_val _ _ _ _ _ _ pl_str (@pal_val _ _ _ _ _ _ pl_str pal_nil zb) zb)) (pl_cxB (ok__law_take T) T.x__law_take hr 0 1 (pal_var 1 (@pal_val _ _ _ _ _ _ pl_int pal_nil zb))) (λ_ _=>rfl))))) pal_nil zb)))) (@pms_one _ _ _ (@pm_ret _ _ _ _ pl_bl)) pms_nil))))) (@pms_one _ _ _ (@pm_ret _ _ _ _ (pl_and (pl_cx (ok__law_sending T) T.x__law_sending hr (@pal_val _ _ _ _ _ _ (@pl_frz _ _ _ (@pl_lst _ _ _ _ _ pal_nil)) pal_nil zb)) (pl_and (pl_cx (ok__law_ways T) T.x__law_ways hr (@pal_val _ _ _ _ _ _ (@pl_frz _ _ _ (@pl_lst _ _ _ _ _ pal_nil)) pal_nil zb)) (pl_one (pl_cx (ok__law_longer T) T.x__law_longer hr (@pal_val _ _ _ _ _ _ (pl_cx (ok__law_begun T) T.x__law_begun hr (@pal_val _ _ _ _ _ _ (pl_var 0) (@pal_val _ _ _ _ _ _ pl_int pal_nil zb) zb)) pal_nil zb)))))))))
  sat_law
end
noncomputable def adF(i:Nat):Addr:=([60,67,74,81,88,93,98,105,112,119,126,131,138,164,157,145,152,171,211,216,223,199,228,235,178,242,192,185,206,247]:List Addr).getD i 0
noncomputable abbrev md0:Value:=(.str "ringloads.divisors" 240)
noncomputable abbrev md1:Value:=(.str "ringloads.names" 251)
noncomputable abbrev md2:Value:=(.str "ringloads.ringtexts" 274)
noncomputable abbrev md3:Value:=(.str "ringloads.ratios" 299)
noncomputable abbrev md4:Value:=(.str "ringloads.ways" 318)
noncomputable abbrev md5:Value:=(.str "ringloads.papertexts" 331)
noncomputable abbrev md6:Value:=(.str "law_ringloads_k76_sendings_and_ways_written" 384)
noncomputable def fdF(i:Nat):FuncData:=[fdM "greatest_shared" s_greatest_shared md0 59,fdM "is_whole" s_is_whole md1 66,fdM "are_two_wholes" s_are_two_wholes md1 73,fdM "is_ratio" s_is_ratio md1 80,fdM "shown_ratio" s_shown_ratio md2 87,fdM "whole_in" s_whole_in md2 92,fdM "ratio_in" s_ratio_in md2 97,fdM "lowest" s_lowest md3 104,fdM "times" s_times md3 111,fdM "is_way" s_is_way md4 118,fdM "shown_words" s_shown_words md5 125,fdM "shown_sending" s_shown_sending md5 130,fdM "shown_ways" s_shown_ways md5 137,fdM "way_in" s_way_in md5 163,fdM "read_list" s_read_list md5 156,fdM "read_sending" s_read_sending md5 144,fdM "read_ways" s_read_ways md5 151,fdM "_law_begun" s__law_begun md6 170,fdM "_law_plain" s__law_plain md6 210,fdM "_law_same" s__law_same md6 215,fdM "_law_text" s__law_text md6 222,fdM "_law_ratio" s__law_ratio md6 198,fdM "_law_sending" s__law_sending md6 227,fdM "_law_ways" s__law_ways md6 234,fdM "_law_take" s__law_take md6 177,fdM "_law_longer" s__law_longer md6 241,fdM "_law_number" s__law_number md6 191,fdM "_law_low" s__law_low md6 184,fdM "_law_parts" s__law_parts md6 205,fdM "law" s_law md6 246].getD i (fdM "law" s_law md0 0)
theorem tx{Pm:Params}{h:Heap}{mg:Str->Option Value}(X:(Hd.Kf Pm).In h)(G:h.Ns mainGlobals mg):Tx (Hd.Kf Pm) mg adF fdF where
 x_greatest_shared:=FX.mk' X G (a:=60) (c:=59) (md:=md0) zb zb zb zb λ_ _ _ _ _ _ u l=>match u,l with | [_,_],_=>rfl
 x_is_whole:=FX.mk' X G (a:=67) (c:=66) (md:=md1) zb zb zb zb λ_ _ _ _ _ _ u l=>match u,l with | [_],_=>rfl
 x_are_two_wholes:=FX.mk' X G (a:=74) (c:=73) (md:=md1) zb zb zb zb λ_ _ _ _ _ _ u l=>match u,l with | [_],_=>rfl
 x_is_ratio:=FX.mk' X G (a:=81) (c:=80) (md:=md1) zb zb zb zb λ_ _ _ _ _ _ u l=>match u,l with | [_],_=>rfl
 x_shown_ratio:=FX.mk' X G (a:=88) (c:=87) (md:=md2) zb zb zb zb λ_ _ _ _ _ _ u l=>match u,l with | [_],_=>rfl
 x_whole_in:=FX.mk' X G (a:=93) (c:=92) (md:=md2) zb zb zb zb λ_ _ _ _ _ _ u l=>match u,l with | [_],_=>rfl
 x_ratio_in:=FX.mk' X G (a:=98) (c:=97) (md:=md2) zb zb zb zb λ_ _ _ _ _ _ u l=>match u,l with | [_],_=>rfl
 x_lowest:=FX.mk' X G (a:=105) (c:=104) (md:=md3) zb zb zb zb λ_ _ _ _ _ _ u l=>match u,l with | [_,_],_=>rfl
 x_times:=FX.mk' X G (a:=112) (c:=111) (md:=md3) zb zb zb zb λ_ _ _ _ _ _ u l=>match u,l with | [_,_],_=>rfl
 x_is_way:=FX.mk' X G (a:=119) (c:=118) (md:=md4) zb zb zb zb λ_ _ _ _ _ _ u l=>match u,l with | [_],_=>rfl
 x_shown_words:=FX.mk' X G (a:=126) (c:=125) (md:=md5) zb zb zb zb λ_ _ _ _ _ _ u l=>match u,l with | [_],_=>rfl
 x_shown_sending:=FX.mk' X G (a:=131) (c:=130) (md:=md5) zb zb zb zb λ_ _ _ _ _ _ u l=>match u,l with | [_],_=>rfl
 x_shown_ways:=FX.mk' X G (a:=138) (c:=137) (md:=md5) zb zb zb zb λ_ _ _ _ _ _ u l=>match u,l with | [_],_=>rfl
 x_way_in:=FX.mk' X G (a:=164) (c:=163) (md:=md5) zb zb zb zb λ_ _ _ _ _ _ u l=>match u,l with | [_],_=>rfl
 x_read_list:=FX.mk' X G (a:=157) (c:=156) (md:=md5) zb zb zb zb λ_ _ _ _ _ _ u l=>match u,l with | [_,_,_],_=>rfl
 x_read_sending:=FX.mk' X G (a:=145) (c:=144) (md:=md5) zb zb zb zb λ_ _ _ _ _ _ u l=>match u,l with | [_],_=>rfl
 x_read_ways:=FX.mk' X G (a:=152) (c:=151) (md:=md5) zb zb zb zb λ_ _ _ _ _ _ u l=>match u,l with | [_],_=>rfl
 x__law_begun:=FX.mk' X G (a:=171) (c:=170) (md:=md6) zb zb zb zb λ_ _ _ _ _ _ u l=>match u,l with | [_,_],_=>rfl
 x__law_plain:=FX.mk' X G (a:=211) (c:=210) (md:=md6) zb zb zb zb λ_ _ _ _ _ _ u l=>match u,l with | [_],_=>rfl
 x__law_same:=FX.mk' X G (a:=216) (c:=215) (md:=md6) zb zb zb zb λ_ _ _ _ _ _ u l=>match u,l with | [_,_],_=>rfl
 x__law_text:=FX.mk' X G (a:=223) (c:=222) (md:=md6) zb zb zb zb λ_ _ _ _ _ _ u l=>match u,l with | [_],_=>rfl
 x__law_ratio:=FX.mk' X G (a:=199) (c:=198) (md:=md6) zb zb zb zb λ_ _ _ _ _ _ u l=>match u,l with | [_],_=>rfl
 x__law_sending:=FX.mk' X G (a:=228) (c:=227) (md:=md6) zb zb zb zb λ_ _ _ _ _ _ u l=>match u,l with | [_],_=>rfl
 x__law_ways:=FX.mk' X G (a:=235) (c:=234) (md:=md6) zb zb zb zb λ_ _ _ _ _ _ u l=>match u,l with | [_],_=>rfl
 x__law_take:=FX.mk' X G (a:=178) (c:=177) (md:=md6) zb zb zb zb λ_ _ _ _ _ _ u l=>match u,l with | [_,_],_=>rfl
 x__law_longer:=FX.mk' X G (a:=242) (c:=241) (md:=md6) zb zb zb zb λ_ _ _ _ _ _ u l=>match u,l with | [_],_=>rfl
 x__law_number:=FX.mk' X G (a:=192) (c:=191) (md:=md6) zb zb zb zb λ_ _ _ _ _ _ u l=>match u,l with | [_],_=>rfl
 x__law_low:=FX.mk' X G (a:=185) (c:=184) (md:=md6) zb zb zb zb λ_ _ _ _ _ _ u l=>match u,l with | [_,_],_=>rfl
 x__law_parts:=FX.mk' X G (a:=206) (c:=205) (md:=md6) zb zb zb zb λ_ _ _ _ _ _ u l=>match u,l with | [_],_=>rfl
 x_law:=FX.mk' X G (a:=247) (c:=246) (md:=md6) zb zb zb zb λ_ _ _ _ _ _ u l=>match u,l with | [_],_=>rfl
 li:=XLoad.mk' X G zb zb zb zb zb zb zb λ_ _ _ _ _ _ u l=>match u,l with | [_,_],_=>rfl
 i_NoText:=fun_mk (oc:=.type "function") (od:=none) (osl:=#[]) zb zb zb
 c_NoText:=XT.mk' X G zb zb zb ((fun_mk (x:="__init__") (qual:="NoText.__init__") (st:=s_xi_NoText) (f:=48) (oc:=.type "function") (od:=none) (osl:=#[]) zb zb zb).binds λ_ _ _ _ _ _ u l=>match u,l with | [_,_],_=>rfl) zb zb
 h_NoText:=XH.mk' X G zb zb zb zb
 z_ValueError:=aM X G zb
 z_abs:=aM X G zb
 z_all:=aM X G zb
 z_bool:=aM X G zb
 z_int:=aM X G zb
 z_isinstance:=aM X G zb
 z_len:=aM X G zb
 z_list:=aM X G zb
 z_max:=aM X G zb
 z_min:=aM X G zb
 z_range:=aM X G zb
 z_str:=aM X G zb
 z_tuple:=aM X G zb
 gf_ratio_in:=globF_mk X G (a:=98) (fd:=fdM "ratio_in" s_ratio_in md2 97) zb zb zb
 gf_way_in:=globF_mk X G (a:=164) (fd:=fdM "way_in" s_way_in md5 163) zb zb zb
 g_BACK:=globS_mk (b7 X G (v:=(.str "back" 322)) zb)
 g_MOST_FIGURES:=globI_mk (b7 X G (v:=(.int 60 276)) zb)
 g_MOST_LISTED:=globI_mk (b7 X G (v:=(.int 20 335)) zb)
 g_NOTHING:=globS_mk (b7 X G (v:=(.str "-" 333)) zb)
 g_ON:=globS_mk (b7 X G (v:=(.str "on" 320)) zb)
theorem walkF(w:World)(mg:Str→Option Value)(fa:Addr)(h:Heap)(X:(Hd.Kf w.params).In h)(G:h.Ns mainGlobals mg) (hmg:mg "law"=some (.ref fa)) :
  ∃ fd:FuncData,(∀(s:Shared)(u:Value),BindsTo s fd ⟨[u],[]⟩ [("_law_script",u)])∧∀ base:Heap,(Hd.Kf w.params).In base→base.Ns mainGlobals mg→FnOk PySem.Challenge.pw_ringloads_k76_sendings_and_ways_written w (Hd.Kf w.params) mg base CX0 8 fa fd ["_law_script"] (spF (Hd.Kf w.params) 1 fs_law):=by
 have T:=tx X G
 have e:=hmg.symm.trans T.x_law.m
 cases e
 exact⟨_,fun s v=>.of_eq rfl,fun base _ _=>ok_law T⟩
theorem tabR(w:World):∀x∈L2.lamNames,PySem.W.tabIn (Hd.Kf w.params) x=none∨((PyProof.Rows.recsOf Hd.q).find? λe=>e.name == x).isSome=true:=by
 intro x hx;simp only[L2.lamNames,aD,List.not_mem_nil,or_false]at hx;rcases hx with rfl|rfl|rfl
 . exact .inl zb
 . exact .inl zb
 . exact .inl zb
theorem walk{l:PySem.W.OpenLaw}{q:Program}{loose:List Str}{XP:(Str->Option Value)->Heap->Prop}{YP:World->Heap->Prop}{d:DefRec}{K:Params->PySem.W.Frag}(hn:l.most=some 63)(hq:PyProof.Rows.importsNone q=true)(hdf:d.params.defaults=[])
  (hY:∀(w:World)(h:Heap),YP w h->(K w.params).In h) (hto:∀w:World,L2.tabsOk (K w.params)=true) (hrc:∀(w:World),∀x∈L2.lamNames,PySem.W.tabIn (K w.params) x=none∨((PyProof.Rows.recsOf q).find? λe=>e.name == x).isSome=true)
  (F:∀(w:World)(mg:Str->Option Value)(fa:Addr)(h:Heap),(K w.params).In h->h.Ns mainGlobals mg->mg d.name=some (.ref fa) ->
   ∃ fd:FuncData,(∀(s:Shared)(u:Value),BindsTo s fd ⟨[u],[]⟩ [("_law_script",u)])/\∀ base:Heap,(K w.params).In base->base.Ns mainGlobals mg->FnOk l.prog w (K w.params) mg base CX0 8 fa fd ["_law_script"] (spF (K w.params) 1 fs_law)) :
  PySem.W.WalkO q loose XP YP l.row.toRowW d [] (λf vs=>PySem.call f vs) :=
 L2.walk_of (n:=63) (k:=8) (x:="_law_script") (CX:=λ_=>CX0) (sp:=λw=>spF (K w.params) 1 fs_law) hn hq ze hdf ⟨rfl,ze,ze,rfl⟩ hY hto hrc F (λ_ H a ns hl hO hS=>law_start hl hO hS (law_holds hl)) λ_ _ _ _ _ z=>z
end My
open PySem PySem.W PyProof.Rows
noncomputable abbrev PySem.W.Fast.tw7321383858508796620:PySem.Program:=PySem.Challenge.pw_ringloads_k76_sendings_and_ways_written
theorem PySem.W.Fast.te7321383858508796620:PySem.Challenge.pw_ringloads_k76_sendings_and_ways_written=PySem.W.Fast.tw7321383858508796620:=rfl
set_option maxRecDepth 100000 in
theorem PySem.Challenge.cw_ringloads_k76_sendings_and_ways_written_holds : PySem.Challenge.rw_ringloads_k76_sendings_and_ways_written.Holds := by
 w_on;o_law
 refine PySem.W.holds_open (q:=Hd.q) (loose:=Hd.loose) (Xt:=Hd.Xt) (XP:=XL Hd.q []) (Yf:=Hook.obs Hd.Hk) (Ya:=Hook.val Hd.Hk) (YP:=Hook.says Hd.Hk) (N:=_) Hd.left (Hook.of Hd.Hk) (Hook.keeps Hd.Hk) (fun s e=>xl_of s (bH.mp e).1) XL.keeps (by rfl) (by rfl) (by rfl) (fun s e=>recFacts_of (bH.mp e).2) (by rfl) (by assumption) zd ⟨rfl,rfl,rfl,rfl,rfl,zd⟩ ?hw ?hc
 case hw=>w_witness2
 case hc=>exact My.walk (l:=PySem.Challenge.rw_ringloads_k76_sendings_and_ways_written) (K:=Hd.Kf) rfl zd rfl (fun w h Y=>PySem.W.kIn_of Y) (fun w=>by kernel_rfl) My.tabR My.walkF