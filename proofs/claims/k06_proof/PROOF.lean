import PyProof.Rows.All
import Wide.All
import OpenK.AllK
import Wide.FinOn
import Lean
import PyProof.EqAt
import PyProof.EqKinds
import PyProof.TupleCall
import PyProof.ExcArgs
import KE.KSortKey
import KE.KIsAll
import PyProof.ExcInit
import PyProof.StationsW
import PyProof.NsDelKeeps
import PyProof.RulesAs
import PyProof.PassesOwn
import PyProof.ExcBaseAll.ValueError
import PyProof.InstStoreFacts
import PyProof.Rows.EqDataRows
import PyProof.ReprRoads
import PyProof.Rows.Range3
import PyProof.ConsumeWalk
import PyProof.FString5
import PyProof.ReprLen
import PyProof.Rows.TupAdd
import PyProof.Rows.RuleIs
import PyProof.ListNew
import KE.KRevIter
import PyProof.Rows.SeqMore2
import PyProof.ListRange
import KE.KEqDict
import PyProof.NeKinds
import PyProof.CallStr
import PyProof.ListMulAny
import PyProof.Rows.SetFrom
import PyProof.SetRoads
import KE.KSortTup
import PySem.Challenge.RW_ringloads_k06_rings_refused
set_option Elab.async false
set_option linter.all false
set_option maxRecDepth 100000
set_option maxHeartbeats 0
theorem z_ {α:Sort _} {a b:α} (h:a=b:=by kernel_rfl):a=b:=h
theorem y_ {p:Prop} [Decidable p] (h:decide p=true:=by decide +kernel):p:=of_decide_eq_true h
theorem x_ {p:Prop} [Decidable p] (h:decide p=true:=by decide):p:=of_decide_eq_true h
theorem xL{p:Prop}(h:p:=by omega):p:=h
theorem v6{p:Prop}(h:p:=by simp):p:=h
section
open PySem PySem.Spec PyProof.Rows PySem.W
theorem kS:type_of% @wpAny_bind:=@wpAny_bind
theorem so:type_of% @List.mem_cons_of_mem:=@List.mem_cons_of_mem
theorem tu:type_of% @Heap.get?_push_of_some:=@Heap.get?_push_of_some
theorem Mw:type_of% @List.mem_cons_self:=@List.mem_cons_self
theorem Mx:type_of% @List.getElem?_eq_some_iff:=@List.getElem?_eq_some_iff
theorem Mz:type_of% @Nat.lt_of_lt_of_le:=@Nat.lt_of_lt_of_le
theorem MA:type_of% @Heap.lt_size:=@Heap.lt_size
theorem MB:type_of% @wpAny_pure:=@wpAny_pure
theorem MC:type_of% @List.mem_cons:=@List.mem_cons
theorem MD:type_of% @List.length_map:=@List.length_map
theorem ME:type_of% @Nat.le_refl:=@Nat.le_refl
theorem MF:type_of% @List.size_toArray:=@List.size_toArray
theorem MG:type_of% @List.getElem?_eq_getElem:=@List.getElem?_eq_getElem
theorem MH:type_of% @Nat.le_trans:=@Nat.le_trans
theorem MI:type_of% @Int.eq_ofNat_of_zero_le:=@Int.eq_ofNat_of_zero_le
theorem MJ:type_of% @List.mem_append_left:=@List.mem_append_left
theorem MK:type_of% @List.length_append:=@List.length_append
theorem ML:type_of% @List.mem_append:=@List.mem_append
theorem MM:type_of% @List.mem_append_right:=@List.mem_append_right
theorem MN:type_of% @List.map_cons:=@List.map_cons
theorem MO:type_of% @Nat.ne_of_lt:=@Nat.ne_of_lt
theorem MP:type_of% @decide_eq_false:=@decide_eq_false
theorem MQ:type_of% @List.nodup_cons:=@List.nodup_cons
theorem MR:type_of% @Bool.and_eq_true:=@Bool.and_eq_true
theorem MS:type_of% @List.not_mem_nil:=@List.not_mem_nil
theorem MT:type_of% @beq_eq_false_iff_ne:=@beq_eq_false_iff_ne
theorem MU:type_of% @List.lookup_cons:=@List.lookup_cons
theorem MV:type_of% @List.append_assoc:=@List.append_assoc
theorem MW:type_of% @List.getElem?_append_right:=@List.getElem?_append_right
theorem MX:type_of% @List.nodup_append:=@List.nodup_append
theorem MY:type_of% @List.length_cons:=@List.length_cons
theorem MZ:type_of% @Option.some.inj:=@Option.some.inj
theorem M0:type_of% @Option.some.injEq:=@Option.some.injEq
theorem M1:type_of% @PySem.W.mg_none_of:=@PySem.W.mg_none_of
theorem M3:type_of% @List.replicate_succ:=@List.replicate_succ
theorem M4:type_of% @Heap.get?_push_size:=@Heap.get?_push_size
theorem M5:type_of% @Int.fmod_eq_emod_of_nonneg:=@Int.fmod_eq_emod_of_nonneg
theorem M6:type_of% @Bool.false_ne_true:=@Bool.false_ne_true
theorem M7:type_of% @Heap.get?_update_other:=@Heap.get?_update_other
theorem M8:type_of% @List.length_take:=@List.length_take
theorem M9:type_of% @List.append_nil:=@List.append_nil
theorem Na:type_of% @wpAny_truthy_bool:=@wpAny_truthy_bool
theorem Nc:type_of% @List.getElem?_map:=@List.getElem?_map
theorem Nd:type_of% @Nat.lt_of_le_of_lt:=@Nat.lt_of_le_of_lt
theorem Ng:type_of% @Nat.add_sub_cancel_left:=@Nat.add_sub_cancel_left
theorem Nh:type_of% @List.getElem?_append_left:=@List.getElem?_append_left
theorem Ni:type_of% @wpAny_loadPart_at:=@wpAny_loadPart_at
theorem Nj:type_of% @List.getElem?_set_self:=@List.getElem?_set_self
theorem Nk:type_of% @List.mem_singleton:=@List.mem_singleton
theorem Nl:type_of% @List.perm_append_comm:=@List.perm_append_comm
theorem Nm:type_of% @List.length_drop:=@List.length_drop
theorem Nn:type_of% @decide_eq_true:=@decide_eq_true
theorem Np:type_of% @wpAny_mono:=@wpAny_mono
theorem Nq:type_of% @List.all_eq_true:=@List.all_eq_true
theorem Nr:type_of% @decide_eq_true_eq:=@decide_eq_true_eq
theorem Nu:type_of% @List.mem_of_mem_take:=@List.mem_of_mem_take
theorem Nv:type_of% @Nat.pow_le_pow_right:=@Nat.pow_le_pow_right
theorem Nw:type_of% @wpAny_Call_Name_kw:=@wpAny_Call_Name_kw
theorem Nx:type_of% @Bool.false_and:=@Bool.false_and
theorem Ny:type_of% @exists_eq_left':=@exists_eq_left'
theorem Nz:type_of% @List.getElem?_set_ne:=@List.getElem?_set_ne
theorem NA:type_of% @List.zip_append:=@List.zip_append
theorem NB:type_of% @PySem.W.kia_one:=@PySem.W.kia_one
theorem NC:type_of% @PySem.W.kia_tup:=@PySem.W.kia_tup
theorem ND:type_of% @List.mem_map:=@List.mem_map
theorem NF:type_of% @List.sublist_append_right:=@List.sublist_append_right
theorem NG:type_of% @PySem.mem_of_lookup:=@PySem.mem_of_lookup
theorem NH:type_of% @Ne.symm:=@Ne.symm
theorem NI:type_of% @Heap.get?_update_self:=@Heap.get?_update_self
theorem NJ:type_of% @List.zip_cons_cons:=@List.zip_cons_cons
theorem NK:type_of% @Int.natAbs_natCast:=@Int.natAbs_natCast
theorem NL:type_of% @List.length_eq_zero_iff:=@List.length_eq_zero_iff
theorem NM:type_of% @Bool.and_eq_true_iff:=@Bool.and_eq_true_iff
theorem NN:type_of% @Bool.and_false:=@Bool.and_false
theorem NO:type_of% @List.flatten_cons:=@List.flatten_cons
theorem NP:type_of% @List.length_replicate:=@List.length_replicate
theorem NQ:type_of% @List.length_singleton:=@List.length_singleton
theorem NS:type_of% @List.contains_cons:=@List.contains_cons
theorem NT:type_of% @wpAny_holding:=@wpAny_holding
theorem NU:type_of% @List.set_set:=@List.set_set
theorem NV:type_of% @List.eq_of_mem_replicate:=@List.eq_of_mem_replicate
theorem NW:type_of% @Nat.zero_le:=@Nat.zero_le
theorem NX:type_of% @wpAny_newObj_type:=@wpAny_newObj_type
theorem NY:type_of% @List.length_nil:=@List.length_nil
theorem NZ:type_of% @List.take_of_length_le:=@List.take_of_length_le
theorem N0:type_of% @Fast.te14364793385576792824:=@Fast.te14364793385576792824
theorem N1:type_of% @PyProof.Rows.callWith_type1:=@PyProof.Rows.callWith_type1
theorem N2:type_of% @Bool.true_and:=@Bool.true_and
theorem N3:type_of% @PySem.W.callWith_K:=@PySem.W.callWith_K
theorem N4:type_of% @Int.emod_lt_of_pos:=@Int.emod_lt_of_pos
theorem N5:type_of% @Calls.spliced_cons:=@Calls.spliced_cons
theorem N6:type_of% @List.nil_append:=@List.nil_append
theorem N7:type_of% @Int.emod_nonneg:=@Int.emod_nonneg
theorem N8:type_of% @wpAny_execs_nil:=@wpAny_execs_nil
theorem N9:type_of% @wpAny_passesOwn:=@wpAny_passesOwn
theorem Oa:type_of% @of_decide_eq_true:=@of_decide_eq_true
theorem Ob:type_of% @wpAny_field:=@wpAny_field
theorem Oc:type_of% @List.Sublist.refl:=@List.Sublist.refl
theorem Od:type_of% @codeAny_call_builtin:=@codeAny_call_builtin
theorem Oe:type_of% @Nat.lt_irrefl:=@Nat.lt_irrefl
theorem Of:type_of% @Array.length_toList:=@Array.length_toList
theorem Og:type_of% @List.filterMap_cons:=@List.filterMap_cons
theorem Oh:type_of% @List.getElem_mem:=@List.getElem_mem
theorem Oi:type_of% @or_false:=@or_false
theorem Oj:type_of% @List.nodup_nil:=@List.nodup_nil
theorem Ol:type_of% @List.cons_append:=@List.cons_append
theorem Om:type_of% @wpAny_call:=@wpAny_call
theorem On:type_of% @beq_iff_eq:=@beq_iff_eq
theorem Oo:type_of% @PassesOwn.never:=@PassesOwn.never
theorem Oq:type_of% @Bool.or_false:=@Bool.or_false
theorem Os:type_of% @congrArg:=@congrArg
theorem Ot:type_of% @segRun_of:=@segRun_of
theorem Ou:type_of% @piece_app:=@piece_app
end
namespace L2
open PySem PySem.Spec PyProof.Rows
noncomputable abbrev IG:=Sum Int Str
noncomputable def uv:IG->Value->Bool
 |.inl k,v=>Value.isInt k v
 |.inr x,v=>Value.isStrOf x v
noncomputable def HD(w:World):IG->Int
 |.inl k=>hashInt k
 |.inr x=>hashStr w x
theorem bB:∀{k:IG}{v:Value},uv k v=true->(∃i t,k=Sum.inl i/\v=Value.int i t)∨(∃x t,k=Sum.inr x/\v=Value.str x t)
 | .inl i,v,h=>by obtain⟨t,e⟩:=Value.isInt_shape (k:=i) (v:=v) h;exact .inl ⟨i,t,rfl,e⟩
 | .inr x,v,h=>by obtain⟨t,e⟩:=Value.isStrOf_shape (x:=x) (v:=v) h;exact .inr ⟨x,t,rfl,e⟩
theorem vq(i:Int)(t:Tok):uv (.inl i) (.int i t)=true:=by simp[uv,Value.isInt]
theorem vt(x:Str)(t:Tok):uv (.inr x) (.str x t)=true:=by simp[uv,Value.isStrOf]
theorem C3(a b:Int):decide ((Sum.inl a:IG)=Sum.inl b)=(a == b):=by
 by_cases e:a=b
 . subst e;simp
 . have h:¬(Sum.inl a:IG)=Sum.inl b:=λq=>e (Sum.inl.inj q);rw[MP h];exact(MT.mpr e).symm
theorem C4(a b:Str):decide ((Sum.inr a:IG)=Sum.inr b)=decide (a=b):=by
 by_cases e:a=b
 . subst e;simp
 . have h:¬(Sum.inr a:IG)=Sum.inr b:=λq=>e (Sum.inr.inj q);rw[MP h,MP e]
theorem C5(a:Int)(b:Str):decide ((Sum.inl a:IG)=Sum.inr b)=false:=MP (λq=>nomatch q)
theorem C6(a:Str)(b:Int):decide ((Sum.inr a:IG)=Sum.inl b)=false:=MP (λq=>nomatch q)
noncomputable def cf(prog:Program)(w:World):PySem.KeyKind prog w IG where
 is:=uv
 hash:=HD w
 inj:=λv a b ha hb=>by
  rcases bB ha with⟨i,t,rfl,rfl⟩|⟨x,t,rfl,rfl⟩
  .
   rcases bB hb with⟨j,u,rfl,e⟩|⟨y,u,rfl,e⟩
   . injection e with e1 _;rw[e1]
   . exact nomatch e
  .
   rcases bB hb with⟨j,u,rfl,e⟩|⟨y,u,rfl,e⟩
   . exact nomatch e
   . injection e with e1 _;rw[e1]
 byValue:=λk v h=>by rcases bB h with⟨i,t,rfl,rfl⟩|⟨x,t,rfl,rfl⟩<;>rfl
 pyHash:=λhv h=>by
  rcases bB hv with⟨i,t,rfl,rfl⟩|⟨x,t,rfl,rfl⟩
  . exact wpAny_pyHash_int h
  . exact wpAny_pyHash_str h
 eqBool:=λhu hv h=>by
  rcases bB hu with⟨i,t,rfl,rfl⟩|⟨x,t,rfl,rfl⟩
  .
   rcases bB hv with⟨j,u,rfl,rfl⟩|⟨y,u,rfl,rfl⟩
   . rw[C3]at h;exact wpAny_eqBool_int h
   . rw[C5]at h;exact SeqAt.EqAt.int_str i t y u _ _ _ _ h
  .
   rcases bB hv with⟨j,u,rfl,rfl⟩|⟨y,u,rfl,rfl⟩
   . rw[C6]at h;exact SeqAt.EqAt.str_int x t j u _ _ _ _ h
   . rw[C4]at h;exact wpAny_eqBool_str h
 «strs»:=λk x t v h=>by
  rcases bB h with⟨i,u,rfl,e⟩|⟨y,u,rfl,e⟩
  . exact nomatch e
  . injection e with e1 _;subst e1;cases v<;>rfl
theorem qW(prog:Program)(w:World)(i:Int)(t:Tok):(cf prog w).is (.inl i) (.int i t)=true:=vq i t
theorem qX(prog:Program)(w:World)(x:Str)(t:Tok):(cf prog w).is (.inr x) (.str x t)=true:=vt x t
inductive V where
 |non|bl (b:Bool)|int (i:Int)|str (x:Str)|byt (b:Array UInt8)|flt (b:UInt64)|ref (a:Addr)|ty (n:String)
 deriving DecidableEq
def bF:V->Value->Prop
 |.non,u=>u=Value.none
 |.bl b,u=>u=Value.bool b
 |.int i,u=>∃t,u=Value.int i t
 |.str x,u=>∃t,u=Value.str x t
 |.byt b,u=>∃t,u=Value.bytes b t
 |.flt b,u=>∃t,u=Value.float b t
 |.ref a,u=>u=Value.ref a
 |.ty n,u=>u=Value.type n
abbrev bL:List V->List Value->Prop:=Paired bF
theorem bL.length{xs:List V}{us:List Value}(r:bL xs us):xs.length=us.length:=Paired.length r
theorem bL.get:∀{xs:List V}{us:List Value}{i:Nat}{x:V},bL xs us->xs[i]?=some x->∃u,us[i]?=some u/\bF x u
 |_,_,_,_,.nil,e=>by simp at e
 |_,_,0,_,.cons r _,e=>by simp at e;subst e;exact⟨_,rfl,r⟩
 | _,_,i+1,x,.cons _ t,e=>by obtain⟨u,h1,h2⟩:=bL.get (i:=i) (x:=x) t (by simpa using e);exact⟨u,by simpa using h1,h2⟩
theorem bL.set{x:V}{u:Value}(r:bF x u):∀{xs:List V}{us:List Value}(i:Nat),bL xs us->bL (xs.set i x) (us.set i u)
 |_,_,_,.nil=>.nil
 |_,_,0,.cons _ t=>.cons r t
 |_,_,i+1,.cons q t=>.cons q (bL.set r i t)
theorem bL.append:∀{xs ys:List V}{us ws:List Value},bL xs us->bL ys ws->bL (xs++ys) (us++ws)
 |_,_,_,_,.nil,s=>s
 |_,_,_,_,.cons r t,s=>.cons r (bL.append t s)
theorem bL.take:∀{xs:List V}{us:List Value}(n:Nat),bL xs us->bL (xs.take n) (us.take n)
 |_,_,0,_=>.nil
 |_,_,_+1,.nil=>.nil
 |_,_,n+1,.cons r t=>.cons r (bL.take n t)
theorem bL.drop:∀{xs:List V}{us:List Value}(n:Nat),bL xs us->bL (xs.drop n) (us.drop n)
 |_,_,0,r=>r
 |_,_,_+1,.nil=>.nil
 |_,_,n+1,.cons _ t=>bL.drop n t
def qY:Option V->Option Value->Prop
 |some v,some u=>bF v u
 |none,none=>True
 |_,_=>False
def KV{κ:Type}:List (κ×V)->List (κ×Value)->Prop:=Paired λ(p:κ×V) (q:κ×Value)=>p.1=q.1/\bF p.2 q.2
noncomputable def kV:IG->V
 |.inl i=>.int i
 |.inr x=>.str x
inductive HO where
 |lst (xs:List V)
 |tup (xs:List V)
 |dK (kvs:List (IG×V))|dT (kvs:List (List IG×V))
 |set (S:Int->Bool) (n:Nat)
 |ins (C dx:Addr) (fs:List (Str×V))
 |own (x:Addr)
 |xd (fs:List (Str×V))
 |met (f x:Addr)
 |rng (lo hi:Int)
 |frz (o:Obj) (u:HO)
 |tbl (q:Str)
 |ext (φ:Heap->Prop)
noncomputable abbrev Hp:=Addr->Option HO
noncomputable def IH(H:Hp)(a:Addr)(o:HO):Hp:=λb=>if b=a then some o else H b
theorem aG{H:Hp}{a:Addr}{o:HO}:IH H a o a=some o:=by unfold IH;rw[if_pos rfl]
theorem ar{H:Hp}{a b:Addr}{o:HO}(h:b≠a):IH H a o b=H b:=by unfold IH;rw[if_neg h]
theorem q8{H:Hp}{a:Addr}{o u:HO}:IH (IH H a o) a u=IH H a u:=by
 funext b;unfold IH;split<;>rfl
theorem aQ{H:Hp}{a b:Addr}{o:HO}(h:H a=some o)(h':H b=none):a≠b:=by intro e;subst e;rw[h]at h';cases h'
def iP(oc:Obj)(q:Str):Prop:=∃vs t,oc.data=.fields vs/\vs[1]?=some (.str q t)
section
variable(P:Program)(w:World)
def cg(H:Hp)(h:Heap)(a:Addr):HO->Prop
 |.lst xs=>xs.length<=sizeLine/\∃(its:List Value)(n:Nat),bL xs its/\h.get? a=some {cls:=.type "list",data:=.seq its.toArray n}
 |.tup xs=>xs.length<=sizeLine/\∃its:List Value,bL xs its/\IsTup h a its.toArray
 |.dK kvs=>kvs.length<=sizeLine/\(a == sysModules)=false/\∃vs,KV kvs vs/\h.DictOf (cf P w) a vs
 | .dT kvs=>kvs.length<=sizeLine/\(a == sysModules)=false/\∃xs:List (List IG×Addr×Value),
   Paired (λ(p:List IG×V) (q:List IG×Addr×Value)=>p.1=q.1/\H q.2.1=some (.tup (p.1.map kV))/\bF p.2 q.2.2) kvs xs /\
   ∃o es ep,h.get? a=some o/\o.ExactDict/\o.data=.dict es ep/\es.toList=xs.map (entryOfKey (tupleKind (cf P w)))/\(xs.map (·.1)).Nodup
 |.set S n=>h.SetOf (intKind P w) a S n
 | .ins C dx fs=>H dx=some (.own a)/\fs.length<=1000/\dx≠a/\h.get? a=some (PySem.W.instObj C dx) /\
   ∃mA,h.Ns1 dx mA/\(∀f,qY (fs.lookup f) (mA f))/\PySem.Within mA (fs.map (·.1))
 |.own _=>∃o,h.get? a=some o
 |.xd fs=>∃mA,h.Ns1 a mA/\∀f,qY (fs.lookup f) (mA f)
 |.rng lo hi=>∃ t u v,h.get? a=some {cls:=.type "range",data:=.fields #[.int lo t,.int hi u,.int 1 v] }
 |.frz o u=>h.get? a=some o/\cg H h a u
 |.tbl q=>∃ps:Array Value,h.get? a=some {cls:=.none,data:=.fields ps}/\TriplesOk ps.toList/\∀pos cv,codeAmong pos ps.toList=some cv->∃c' oc,cv=.ref c'/\H c'=some (.frz oc (.own c'))/\iP oc q
 |.met f x=>h.get? a=some (PySem.W.methodObj (.ref f) (.ref x))
 |.ext φ=>φ h/\(∃o,h.get? a=some o)/\∀h1 h2:Heap,φ h1->(∀o,h1.get? a=some o->h2.get? a=some o)->φ h2
def II(H:Hp)(h:Heap):Prop:=∀a o,H a=some o->cg P w H h a o
end
section
variable{P:Program}{w:World}{H H':Hp}{h h':Heap}{a:Addr}{o:HO}
theorem cg.lt(x:cg P w H h a o):a<h.objs.size:=by
 cases o with
 |lst xs=>obtain⟨_,_,_,_,e⟩:=x;exact MA e
 |tup xs=>obtain⟨_,_,_,p⟩:=x;exact p.lt
 |dK kvs=>obtain⟨_,_,_,_,o,_,_,e,_⟩:=x;exact MA e
 |dT kvs=>obtain⟨_,_,_,_,o,_,_,e,_⟩:=x;exact MA e
 |set S n=>obtain⟨o,_,_,_,e,_⟩:=x;exact MA e
 |ins C dx fs=>obtain⟨_,_,_,e,_⟩:=x;exact MA e
 |own y=>obtain⟨_,e⟩:=x;exact MA e
 |xd fs=>obtain⟨_,⟨_,_,_,e,_⟩,_⟩:=x;exact MA e
 |rng lo hi=>obtain⟨_,_,_,e⟩:=x;exact MA e
 |frz ob u=>obtain⟨e,_⟩:=x;exact MA e
 |tbl q=>obtain⟨_,e,_⟩:=x;exact MA e
 |met f y=>exact MA (show h.get? a=some _ from x)
 |ext φ=>obtain⟨_,⟨_,e⟩,_⟩:=x;exact MA e
theorem Paired.mapP{α β:Type}{F G:α->β->Prop}:∀{l₁:List α}{l₂:List β},Paired F l₁ l₂->(∀a b,F a b->G a b)->Paired G l₁ l₂
 |_,_,.nil,_=>.nil
 |_,_,.cons r t,f=>.cons (f _ _ r) (Paired.mapP t f)
theorem cg.stay(x:cg P w H h a o)(k:∀b u,(b=a∨H b=some (.own a))->h.get? b=some u->h'.get? b=some u)
  (ho:∀b,H b=some (.own a)->H' b=some (.own a)) (ht:∀b xs,H b=some (.tup xs)->H' b=some (.tup xs)) (hf:∀b o q,iP o q->H b=some (.frz o (.own b))->H' b=some (.frz o (.own b))):cg P w H' h' a o:=by
 induction o with
 |lst xs=>obtain⟨z,its,n,r,e⟩:=x;exact⟨z,its,n,r,k _ _ (.inl rfl) e⟩
 |tup xs=>obtain⟨z,its,r,ob,e,c⟩:=x;exact⟨z,its,r,ob,k _ _ (.inl rfl) e,c⟩
 |dK kvs=>obtain⟨z,y,vs,r,ob,es,ep,e,c⟩:=x;exact⟨z,y,vs,r,ob,es,ep,k _ _ (.inl rfl) e,c⟩
 | dT kvs =>
  obtain⟨z,y,xs,r,ob,es,ep,e,c⟩:=x;exact⟨z,y,xs,Paired.mapP r λp q z=>⟨z.1,ht _ _ z.2.1,z.2.2⟩,ob,es,ep,k _ _ (.inl rfl) e,c⟩
 |set S n=>obtain⟨ob,es,ep,t,e,c⟩:=x;exact⟨ob,es,ep,t,k _ _ (.inl rfl) e,c⟩
 | ins C dx fs =>
  obtain⟨d,z,ne,e,mA,⟨od,es,ep,e2,c⟩,r⟩:=x;exact⟨ho _ d,z,ne,k _ _ (.inl rfl) e,mA,⟨od,es,ep,k _ _ (.inr d) e2,c⟩,r⟩
 |own y=>obtain⟨ob,e⟩:=x;exact⟨ob,k _ _ (.inl rfl) e⟩
 |xd fs=>obtain⟨mA,⟨od,es,ep,e,c⟩,r⟩:=x;exact⟨mA,⟨od,es,ep,k _ _ (.inl rfl) e,c⟩,r⟩
 |rng lo hi=>obtain⟨t,u,v,e⟩:=x;exact⟨t,u,v,k _ _ (.inl rfl) e⟩
 |frz ob u ih=>obtain⟨e,q⟩:=x;exact⟨k _ _ (.inl rfl) e,ih q⟩
 | tbl q =>
  obtain⟨ps,e,tr,m⟩:=x
  exact⟨ps,k a _ (.inl rfl) e,tr,λpos cv z=>let ⟨c',oc,a1,a2,a3⟩:=m pos cv z;⟨c',oc,a1,hf _ _ _ a3 a2,a3⟩⟩
 | met f y =>
  have e:h.get? a=some (PySem.W.methodObj (.ref f) (.ref y)):=x;show h'.get? a=some (PySem.W.methodObj (.ref f) (.ref y));exact k a _ (.inl rfl) e
 |ext φ=>obtain⟨p,⟨o,e⟩,st⟩:=x;exact⟨st _ _ p λo q=>k _ _ (.inl rfl) q,⟨o,k _ _ (.inl rfl) e⟩,st⟩
theorem II.lt(x:II P w H h)(e:H a=some o):a<h.objs.size:=(x a o e).lt
theorem II.fresh(x:II P w H h)(e:h.objs.size<=a):H a=none:=by
 cases q:H a with
 |none=>rfl
 |some u=>exact absurd (Mz (x.lt q) e) (Oe _)
theorem II.kept(x:II P w H h)(k:∀b u,h.get? b=some u->h'.get? b=some u):II P w H h':=λa o e =>
 (x a o e).stay (λb u _ q=>k b u q) (λ_ q=>q) (λ_ _ q=>q) λ_ _ _ _ q=>q
theorem II.laid(x:II P w H h)(k:∀b u,h.get? b=some u->h'.get? b=some u)(hp:h.objs.size<=a)(new:cg P w (IH H a o) h' a o):II P w (IH H a o) h':=λb u e=>by
 have hn:=x.fresh hp;by_cases hb:b=a
 . subst hb;rw[aG]at e;cases e;exact new
 . rw[ar hb]at e;exact(x b u e).stay (λc v _ q=>k c v q) (λc q=>by rw[ar (aQ q hn)];exact q) (λc xs q=>by rw[ar (aQ q hn)];exact q) λc ob _ _ q=>by rw[ar (aQ q hn)];exact q
end
def Rd(H:Hp)(a:Addr)(u:HO):Prop:=H a=some u∨∃o,H a=some (.frz o u)
theorem Rd.ok{P:Program}{w:World}{H:Hp}{h:Heap}{a:Addr}{u:HO}(r:Rd H a u)(x:II P w H h):cg P w H h a u:=by
 rcases r with r|⟨o,r⟩
 . exact x a u r
 . obtain⟨_,q⟩:=x a _ r;exact q
def IJ:Option HO->Prop
 |some (.lst _)=>True
 |some (.dK _)=>True
 |some (.dT _)=>True
 |some (.set _ _)=>True
 |some (.ins _ _ _)=>True
 |some (.ext _)=>True
 |_=>False
section
variable{P:Program}{w:World}{H:Hp}{h h':Heap}{x e:Addr}{o':HO}
theorem II.write(ok:II P w H h)(mu:IJ (H x))(he:e=x∨H e=some (.own x))(k:∀b u,b≠e->h.get? b=some u->h'.get? b=some u)(heo:∃u,h'.get? e=some u)
  (new:cg P w (IH H x o') h' x o'):II P w (IH H x o') h':=λb u q=>by
 have nown:∀c y,H c=some (.own y)->c≠x:=λc y r z=>by subst z;rw[r]at mu;exact mu
 have ntup:∀c xs,H c=some (.tup xs)->c≠x:=λc xs r z=>by subst z;rw[r]at mu;exact mu
 have nfrz:∀c o u,H c=some (.frz o u)->c≠x:=λc o u r z=>by subst z;rw[r]at mu;exact mu
 by_cases hb:b=x
 . subst hb;rw[aG]at q;cases q;exact new
 .
  rw[ar hb]at q;by_cases hbe:b=e
  .
   have q':H b=some (.own x):=by
    rcases he with z|z
    . exact absurd (hbe.trans z) hb
    . rw[hbe];exact z
   rw[q]at q';cases q';obtain⟨v,hv⟩:=heo;exact⟨v,by rw[hbe];exact hv⟩
  .
   refine(ok b u q).stay (λc v hc r=>k c v ?_ r) (λc r=>by rw[ar (nown c b r)];exact r) (λc xs r=>by rw[ar (ntup c xs r)];exact r) λc ob _ _ r=>by rw[ar (nfrz c ob _ r)];exact r
   rcases hc with rfl|hc
   . exact hbe
   .
    rintro rfl;rcases he with z|z
    . exact nown c b hc z
    . rw[hc]at z;cases z;exact hb rfl
end
structure Un (fs ex:List Addr) (H H':Hp) (h h':Heap):Prop where
 keep:∀b o,h.get? b=some o->H b=none->b∉fs->b∉ex->h'.get? b=some o
 slot:∀b o,h.get? b=some o->H b=none->b∈fs->b∉ex->∃sl,h'.get? b=some {o with slots:=sl}
 free:∀b o,h.get? b=some o->H b=none->b∉ex->H' b=none
 there:∀b o,h.get? b=some o->b∉ex->∃o',h'.get? b=some o'
 tups:∀b xs,H b=some (.tup xs)->H' b=some (.tup xs)
 frzs:∀b o u,H b=some (.frz o u)->H' b=some (.frz o u)
 tbls:∀b q,H b=some (.tbl q)->H' b=some (.tbl q)
section
variable{fs fs' ex ex':List Addr}{H H1:Hp}{h h1 h':Heap}{a x e:Addr}{o:HO}
theorem Un.any(u:Un fs ex H H1 h h1){b:Addr}{ob:Obj}(q:h.get? b=some ob)(n:H b=none)(hx:b∉ex):∃sl,h1.get? b=some {ob with slots:=sl}:=by
 by_cases hb:b∈fs
 . exact u.slot b ob q n hb hx
 . exact⟨ob.slots,u.keep b ob q n hb hx⟩
theorem Un.kept(k:∀b u,h.get? b=some u->h'.get? b=some u):Un fs ex H H h h' :=
 ⟨λb ob q _ _ _=>k b ob q,λb ob q _ _ _=>⟨ob.slots,k b ob q⟩,λ_ _ _ n _=>n,λb ob q _=>⟨ob,k b ob q⟩,λ_ _ q=>q,λ_ _ _ q=>q,λ_ _ q=>q⟩
theorem Un.refl:Un fs ex H H h h:=Un.kept λ_ _ q=>q
theorem Un.laid(k:∀b u,h.get? b=some u->h'.get? b=some u)(hp:h.objs.size<=a)(hn:H a=none):Un fs ex H (IH H a o) h h' where
 keep:=λb u q _ _ _=>k b u q
 slot:=λb u q _ _ _=>⟨u.slots,k b u q⟩
 free:=λb u q n _=>by rw[ar (MO (Mz (MA q) hp))];exact n
 there:=λb u q _=>⟨u,k b u q⟩
 tups:=λb xs q=>by rw[ar (aQ q hn)];exact q
 frzs:=λb u xs q=>by rw[ar (aQ q hn)];exact q
 tbls:=λb ps q=>by rw[ar (aQ q hn)];exact q
theorem Un.write(mu:IJ (H x))(he:e=x∨H e=some (.own x))(k:∀b u,b≠e->h.get? b=some u->h'.get? b=some u)(heo:∃u,h'.get? e=some u):Un fs ex H (IH H x o) h h':=by
 have hx:∀b,H b=none->b≠x:=λb n z=>by subst z;rw[n]at mu;exact mu
 have hb:∀b,H b=none->b≠e:=λb n z=>by
  subst z;rcases he with r|r
  . exact hx b n r
  . rw[n]at r;cases r
 have hm:∀b u,H b=some u->¬IJ (some u)->b≠x:=λb u q nm z=>by subst z;rw[q]at mu;exact nm mu
 refine⟨λb u q n _ _=>k b u (hb b n) q,λb u q n _ _=>⟨u.slots,k b u (hb b n) q⟩,λb u q n _=>by rw[ar (hx b n)];exact n,λb u q _=>?_,
  λb xs q=>by rw[ar (hm b _ q λz=>z)];exact q,λb u xs q=>by rw[ar (hm b _ q λz=>z)];exact q,λb ps q=>by rw[ar (hm b _ q λz=>z)];exact q⟩
 by_cases hbe:b=e
 . subst hbe;exact heo
 . exact⟨u,k b u hbe q⟩
theorem Un.mono(u:Un fs ex H H1 h h1)(hs:∀b∈fs,b∈fs')(hx:∀b∈ex,b∈ex'):Un fs' ex' H H1 h h1 :=
 ⟨λb ob q n hb he=>u.keep b ob q n (λz=>hb (hs b z)) λz=>he (hx b z),λ_ _ q n _ he=>u.any q n λz=>he (hx _ z),λb ob q n he=>u.free b ob q n λz=>he (hx b z),λb ob q he=>u.there b ob q λz=>he (hx b z),u.tups,u.frzs,u.tbls⟩
end
noncomputable def IK(h:Heap)(H:Hp):List Addr:=(List.range h.objs.size).filter λa=>(H a).isSome
noncomputable def ym(h:Heap)(H:Hp):Heap:=PySem.W.hideAll h (IK h H)
theorem vw(h:Heap)(H:Hp):(ym h H).objs.size=h.objs.size:=PySem.W.hideAll_size _ _
theorem yn{h:Heap}{H:Hp}{b:Addr}{o:Obj}(e:h.get? b=some o)(n:H b=none):(ym h H).get? b=some o :=
 PySem.W.hideAll_get _ e λhm=>by have q:(H b).isSome=true:=(List.mem_filter.mp hm).2;rw[n]at q;simp at q
theorem AJ{h:Heap}{H:Hp}{b:Addr}{o:Obj}(e:(ym h H).get? b=some o):h.get? b=some o/\H b=none:=by
 have e':h.get? b=some o:=PySem.W.of_hideAll (IK h H) e;refine⟨e',?_⟩
 cases q:H b with
 |none=>rfl
 | some x =>
  have hm:b∈IK h H:=List.mem_filter.mpr ⟨List.mem_range.mpr (MA e'),by simp[q]⟩;have z:(ym h H).get? b=none:=PySem.W.hideAll_none (IK h H) hm;rw[z]at e;cases e
noncomputable def AK(g h:Heap)(L:Addr):List (Addr×Obj):=(List.range h.objs.size).filterMap λa=>if a=L∨(g.get? a).isSome=true then none else(h.get? a).map λo=>(a,o)
noncomputable def dm(g h:Heap)(L d:Addr):List (Addr×Obj):=(AK g h L).filter λp=>decide (p.1≠d)
def C7(mg:Str->Option Value)(h:Heap):Prop:=∃ bm ob,mg "__builtins__"=some (.ref bm)/\bm≠builtinsNs/\h.get? bm=some ob/\ob.cls=.type "module"/\ob.dict=some builtinsNs/\ob.data=.plain
noncomputable def lamNames:List Str:=["look_at_asks","by_lesser_place","look_at_string"]
noncomputable def m6(x:Str):Str:=(x++".<locals>.")++"<lambda>"
def IL(K:PySem.W.Frag)(H:Hp):Prop:=∀x∈lamNames,∀c P,PySem.W.tabIn K x=some (c,P)->H P=some (.tbl (m6 x))
theorem IL.un{K:PySem.W.Frag}{fs ex:List Addr}{H H':Hp}{h h':Heap}(t:IL K H)(u:Un fs ex H H' h h'):IL K H':=λx hx c P e=>u.tbls _ _ (t x hx c P e)
structure Mod (K:PySem.W.Frag) (mg:Str->Option Value) (base:Heap):Prop where
 kin:K.In base
 glob:base.Ns mainGlobals mg
 blt:∃ mb,base.Ns builtinsNs mb/\∀ x:Str,x≠"__name__"->mb x=bootBuiltins x
 nolimit:base.NoLimit
 sysm:∃mm,base.Ns sysModules mm
 bmn:C7 mg base
 cds:∀x∈lamNames,∀c P,PySem.W.tabIn K x=some (c,P)->PySem.W.CodeHd base c P
/-- the context: a def's body (or a comprehension's AL) running. base: fixed through the whole law;s₀,H₀: the entry;outer: the frames whose slots others may change (a def's callers);stack: all frames that run;
  ex: iterators that were made ahead of the entry and are walked here (a comprehension's);fn: the names whose cells were made at the entry (a def: all;a comprehension's AL: its own);calm: not vx an except suite;pn: gV that every state bears;xe: what is wanted of an exception that leaves the code -/
structure Cx where
 prog:Program
 w:World
 K:PySem.W.Frag
 mg:Str->Option Value
 base:Heap
 A:Around
 N:List Str
 s₀:Shared
 H₀:Hp
 env:Env
 outer:List Env
 stack:List Env
 ex:List Addr
 fn:Str->Bool
 calm:Bool
 pn:List (Addr×Obj)
 xe:Value->Shared->Prop
noncomputable def IM(l:List Env):List Addr:=l.filterMap (·.frame)
noncomputable abbrev Cx.fs(X:Cx):List Addr:=IM X.outer
def IP(sc:Scope)(x:Str):Prop:=sc.names.lookup x=some .local∨sc.names.lookup x=some .cell∨sc.names.lookup x=some .free
def IQ(sc:Scope)(x:Str):Prop:=sc.names.lookup x=some .local∨sc.names.lookup x=some .cell
def HE(env:Env)(h:Heap)(m:Str->Option Value)(x:Str)(u:Value):Prop :=
 (env.kindOf x=some .local/\m x=some u)∨((env.kindOf x=some .cell∨env.kindOf x=some .free)/\∃c,env.cells.lookup x=some c/\h.IsCell c (some u))
structure Cx.Ok (X:Cx):Prop where
 mod:Mod X.K X.mg X.base
 kind:X.env.scope.kind=.function
 glob:X.env.globals=mainGlobals
 blt:X.env.builtins=builtinsNs
 above:X.s₀.heap.objs.size<=X.env.locals
 inj:∀x y c,X.env.cells.lookup x=some c->X.env.cells.lookup y=some c->x=y
 has:∀x,(X.env.kindOf x=some .cell∨X.env.kindOf x=some .free)->∃c,X.env.cells.lookup x=some c
 cab:∀x c,X.fn x=true->X.env.cells.lookup x=some c->X.s₀.heap.objs.size<=c
 hd:X.calm=true->X.A.handled=none
 frames:X.A.frames=some X.stack
 stk:X.stack=X.outer∨(X.stack=X.env::X.outer/\X.env.frame=some X.env.locals)
 exf:∀b∈X.ex,b≠X.env.locals/\∀x c,X.env.cells.lookup x=some c->c≠b
 bs:∀b o,X.base.get? b=some o->X.s₀.heap.get? b=some o/\X.H₀ b=none
 bsz:X.base.objs.size<=X.s₀.heap.objs.size
 noex:∀b o,X.base.get? b=some o->b∉X.ex
 exfs:∀b∈X.ex,b∉X.fs
 funs:X.s₀.heap.FunFrames X.base X.outer
 frf:∀b∈X.fs,X.H₀ b=none
 tbs:IL X.K X.H₀
structure IR (X:Cx) (gV:List (Addr×Obj)) (σ:List (Option V)) (H:Hp) (s:Shared):Prop where
 ok:X.Ok
 os:s.os=X.s₀.os
 bare:AllBare s.gens
 base:Un X.fs X.ex X.H₀ H X.s₀.heap s.heap
 loc:∃m,s.heap.Ns X.env.locals m/\∀(i:Nat)(x:Str)(v:V),X.N[i]?=some x->σ[i]?=some (some v)->IP X.env.scope x->∃u,bF v u/\HE X.env s.heap m x u
 cell:∀x c,X.env.cells.lookup x=some c->∃v,s.heap.IsCell c v
 free:H X.env.locals=none
 freeC:∀x c,X.env.cells.lookup x=some c->H c=none∨(X.fn x=false/\∃o,H c=some (.frz o (.own c)))
 pin:∀p∈X.pn++gV,s.heap.get? p.1=some p.2/\H p.1=none/\p.1≠X.env.locals/\p.1∉X.fs/\∀v,p.2.data≠.cell v
 hok:II X.prog X.w H s.heap
 len:σ.length=X.N.length
section
variable{X:Cx}{gV:List (Addr×Obj)}{σ:List (Option V)}{H H':Hp}{s:Shared}{h':Heap}
theorem Cx.Ok.nofr(ok:X.Ok){b:Addr}{o:Obj}(e:X.base.get? b=some o):b∉X.fs:=λhb=>by have:=(ok.funs.mem hb).1;rw[e]at this;cases this
theorem IR.bs(I:IR X gV σ H s):∀b o,X.base.get? b=some o->s.heap.get? b=some o/\H b=none:=λb o e =>
 ⟨I.base.keep b o (I.ok.bs b o e).1 (I.ok.bs b o e).2 (I.ok.nofr e) (I.ok.noex b o e),I.base.free b o (I.ok.bs b o e).1 (I.ok.bs b o e).2 (I.ok.noex b o e)⟩
theorem IR.bk(I:IR X gV σ H s):∀b o,X.base.get? b=some o->s.heap.get? b=some o:=λb o e=>(I.bs b o e).1
theorem IR.tbs(I:IR X gV σ H s):IL X.K H:=I.ok.tbs.un I.base
theorem IR.mod(I:IR X gV σ H s):Mod X.K X.mg X.base:=I.ok.mod
theorem IR.kIn(I:IR X gV σ H s):X.K.In s.heap:=I.ok.mod.kin.keeps I.bk
theorem IR.fr(I:IR X gV σ H s):∃m,Fr X.base X.env.locals s.heap m :=
 let ⟨m,hn,_⟩:=I.loc
 ⟨m,hn,I.bk,MH I.ok.bsz I.ok.above⟩
theorem IR.lt(I:IR X gV σ H s):X.env.locals<s.heap.objs.size:=let ⟨_,hn,_⟩:=I.loc;hn.lt
theorem IR.sz(I:IR X gV σ H s):X.s₀.heap.objs.size<=s.heap.objs.size:=MH I.ok.above (Nat.le_of_lt I.lt)
theorem IR.nofs(I:IR X gV σ H s){a:Addr}(h:s.heap.objs.size<=a):a∉X.fs:=λhb=>by obtain⟨_,o,ho,_⟩:=I.ok.funs.mem hb;exact absurd (Mz (MA ho) (MH I.sz h)) (Oe _)
theorem IR.cne(I:IR X gV σ H s):∀x c,X.env.cells.lookup x=some c->c≠X.env.locals:=λx c e z=>by obtain⟨v,o,ho,hd⟩:=I.cell x c e;obtain⟨m,⟨o',es,ep,ho',hd',_⟩,_⟩:=I.loc;rw[z,ho']at ho;cases ho;rw[hd']at hd;cases hd
theorem IR.funs(I:IR X gV σ H s):s.heap.FunFrames X.base X.outer:=by
 have all:∀(l:List Env),(∀b∈IM l,b∈X.fs)->X.s₀.heap.FunFrames X.base l->s.heap.FunFrames X.base l:=by
  intro l
  induction l with
  |nil=>intro _ _;trivial
  | cons env r ih =>
   intro hs hl;obtain⟨hk,⟨L,o,hf,hn,ho,hd⟩,hr⟩:=hl;have hL:L∈X.fs:=hs L (by unfold IM;rw[Og,hf];exact Mw);obtain⟨sl,e⟩:=I.base.slot L o ho (I.ok.frf L hL) hL λz=>I.ok.exfs L z hL;exact⟨hk,⟨L,_,hf,hn,e,hd⟩,ih (λb hb=>hs b (by unfold IM;rw[Og,hf];exact so _ hb)) hr⟩
 exact all X.outer (λ_ hb=>hb) I.ok.funs
theorem IR.stack(I:IR X gV σ H s):s.heap.FunFrames X.base X.stack:=by
 rcases I.ok.stk with e|⟨e,hf⟩
 . rw[e];exact I.funs
 . rw[e];obtain⟨m,hn,_⟩:=I.loc;refine .cons (by rw[I.ok.kind];decide) hf hn ?_ I.funs;exact Heap.get?_none_of_le (MH I.ok.bsz I.ok.above)
theorem IR.stkSub(I:IR X gV σ H s):∀b∈IM X.stack,b∈X.env.locals::X.fs:=λb hb=>by
 rcases I.ok.stk with e|⟨e,hf⟩
 . rw[e]at hb;exact so _ hb
 . rw[e]at hb;unfold IM at hb;rw[Og,hf]at hb;exact hb
theorem IR.stkFree(I:IR X gV σ H s):∀b∈IM X.stack,H b=none:=λb hb=>by
 rcases MC.mp (I.stkSub b hb)with e|hb
 . rw[e];exact I.free
 . obtain⟨_,o,ho,_⟩:=I.ok.funs.mem hb;exact I.base.free b o ho (I.ok.frf b hb) λz=>I.ok.exfs b z hb
theorem IR.step{g':Array GenState}{t':Nat}{d':Drawn}{ch:List Addr}(I:IR X gV σ H s)
  (hch:∀b∈ch,(b∈X.ex∨X.s₀.heap.objs.size<=b)/\b≠X.env.locals/\(∀x c,X.env.cells.lookup x=some c->c≠b)/\∀p∈X.pn++gV,p.1≠b)
  (keep:∀b o,b≠X.env.locals->b∉X.fs->b∉ch->s.heap.get? b=some o->H b=none->h'.get? b=some o)
  (slot:∀b o,b≠X.env.locals->b∈X.fs->b∉ch->s.heap.get? b=some o->H b=none->∃sl,h'.get? b=some {o with slots:=sl}) (free:∀b o,b∉ch->s.heap.get? b=some o->H b=none->H' b=none)
  (there:∀b o,b∉ch->s.heap.get? b=some o->∃o',h'.get? b=some o')
  (tups:∀b xs,H b=some (.tup xs)->H' b=some (.tup xs)) (frzs:∀b o u,H b=some (.frz o u)->H' b=some (.frz o u)) (tbls:∀b q,H b=some (.tbl q)->H' b=some (.tbl q))
  (ns:∀m,s.heap.Ns X.env.locals m->h'.Ns X.env.locals m) (hok:II X.prog X.w H' h') (hg:AllBare g') :
  IR X gV σ H' {s with heap:=h',gens:=g',drawn:=d',toks:=t' }:=by
 have neL:∀b o,X.s₀.heap.get? b=some o->b≠X.env.locals:=λb o e=>MO (Mz (MA e) I.ok.above)
 have neC:∀b o,X.s₀.heap.get? b=some o->b∉X.ex->b∉ch:=λb o e hx hb=>by
  rcases(hch b hb).1 with z|z
  . exact hx z
  . exact absurd (Mz (MA e) z) (Oe _)
 have cellK:∀x c,X.env.cells.lookup x=some c->∀v,s.heap.IsCell c v->h'.IsCell c v:=λx c e v ⟨o,ho,hd⟩=>by
  have nch:c∉ch:=λz=>(hch c z).2.2.1 x c e rfl;rcases I.freeC x c e with hn|⟨_,o2,hz⟩
  .
   by_cases hc:c∈X.fs
   . obtain⟨sl,q⟩:=slot c o (I.cne x c e) hc nch ho hn;exact⟨_,q,hd⟩
   . exact⟨o,keep c o (I.cne x c e) hc nch ho hn,hd⟩
  . have e1:=(I.hok c _ hz).1;rw[ho]at e1;cases e1;exact⟨o,(hok c _ (frzs c _ _ hz)).1,hd⟩
 refine⟨I.ok,I.os,hg,⟨λb o e n hb hx=>?_,λb o e n hb hx=>?_,λb o e n hx=>?_,λb o e hx=>?_,λb xs e=>tups b xs (I.base.tups b xs e),λb o xs e=>frzs b o xs (I.base.frzs b o xs e),λb ps e=>?_⟩,?_,λx c e=>?_,?_,λx c e=>?_,λp hp=>?_,hok,I.len⟩
 . exact keep b o (neL b o e) hb (neC b o e hx) (I.base.keep b o e n hb hx) (I.base.free b o e n hx)
 . obtain⟨sl,e1⟩:=I.base.slot b o e n hb hx;obtain⟨sl',e2⟩:=slot b _ (neL b o e) hb (neC b o e hx) e1 (I.base.free b o e n hx);exact⟨sl',e2⟩
 . obtain⟨o',e1⟩:=I.base.there b o e hx;exact free b o' (neC b o e hx) e1 (I.base.free b o e n hx)
 . obtain⟨o',e1⟩:=I.base.there b o e hx;exact there b o' (neC b o e hx) e1
 . exact tbls b ps (I.base.tbls b ps e)
 .
  obtain⟨m,hn,hl⟩:=I.loc;refine⟨m,ns m hn,λi x v e1 e2 e3=>?_⟩;obtain⟨u,r,l⟩:=hl i x v e1 e2 e3;refine⟨u,r,?_⟩;rcases l with l|⟨k,c,e,z⟩
  . exact .inl l
  . exact .inr ⟨k,c,e,cellK x c e _ z⟩
 . obtain⟨v,z⟩:=I.cell x c e;exact⟨v,cellK x c e v z⟩
 . obtain⟨m,⟨o,_,_,ho,_⟩,_⟩:=I.loc;exact free _ o (λz=>(hch _ z).2.1 rfl) ho I.free
 .
  obtain⟨v,o,ho,hd⟩:=I.cell x c e;rcases I.freeC x c e with hn|⟨hf,o2,hz⟩
  . exact .inl (free c o (λz=>(hch c z).2.2.1 x c e rfl) ho hn)
  . exact .inr ⟨hf,o2,frzs c _ _ hz⟩
 . obtain⟨e,n,ne,nf,d⟩:=I.pin p hp;have nch:p.1∉ch:=λz=>(hch p.1 z).2.2.2 p hp rfl;exact⟨keep p.1 p.2 ne nf nch e n,free p.1 p.2 nch e n,ne,nf,d⟩
theorem IR.un{t':Nat}(I:IR X gV σ H s)(u:Un X.fs [] H H' s.heap h')(hok:II X.prog X.w H' h'):IR X gV σ H' {s with heap:=h',toks:=t' }:=by
 obtain⟨m,⟨o,es,ep,ho,r⟩,_⟩:=id I.loc;obtain⟨sl,hL⟩:=u.any ho I.free v6
 exact I.step (g':=s.gens) (d':=s.drawn) (ch:=[]) (λ_ z=>nomatch z) (λb o _ hb _ e n=>u.keep b o e n hb v6) (λb o _ hb _ e n=>u.slot b o e n hb v6) (λb o _ e n=>u.free b o e n v6) (λb o _ e=>u.there b o e v6) u.tups u.frzs u.tbls (λm' hm=>by
  obtain⟨o',es',ep',ho',r'⟩:=hm;rw[ho]at ho';cases ho'
  exact⟨_,es',ep',hL,r'⟩) hok I.bare
theorem IR.call{g':Array GenState}{t':Nat}{d':Drawn}{ch:List Addr}(I:IR X gV σ H s)(u:Un (IM X.stack) ch H H' s.heap h')(hok:II X.prog X.w H' h')(hg:AllBare g')
  (hch:∀b∈ch,(b∈X.ex∨X.s₀.heap.objs.size<=b)/\b≠X.env.locals/\(∀x c,X.env.cells.lookup x=some c->c≠b)/\∀p∈X.pn++gV,p.1≠b) :
  IR X gV σ H' {s with heap:=h',gens:=g',drawn:=d',toks:=t' }:=by
 obtain⟨m,⟨o,es,ep,ho,r⟩,_⟩:=id I.loc;obtain⟨sl,hL⟩:=u.any ho I.free λz=>(hch _ z).2.1 rfl
 exact I.step (ch:=ch) hch (λb o hL hb hc e n=>u.keep b o e n (λz=>(MC.mp (I.stkSub b z)).elim hL hb) hc) (λb o _ _ hc e n=>u.any e n hc) (λb o hc e n=>u.free b o e n hc) (λb o hc e=>u.there b o e hc) u.tups u.frzs u.tbls (λm' hm=>by
  obtain⟨o',es',ep',ho',r'⟩:=hm;rw[ho]at ho';cases ho'
  exact⟨_,es',ep',hL,r'⟩) hok hg
theorem IR.turned{t':Nat}{it:Addr}(I:IR X gV σ H s)(k:∀b o,b≠it->s.heap.get? b=some o->h'.get? b=some o)(hn:H it=none)(hL:it≠X.env.locals)
  (h1:it∈X.ex∨X.s₀.heap.objs.size<=it) (h2:∀x c,X.env.cells.lookup x=some c->c≠it) (h3:∀p∈X.pn++gV,p.1≠it):IR X gV σ H {s with heap:=h',toks:=t' }:=by
 have nit:∀b u,H b=some u->b≠it:=λb u e z=>by rw[z,hn]at e;cases e
 refine I.step (g':=s.gens) (d':=s.drawn) (ch:=[it]) (λb hb=>?_) (λb o _ _ hc e _=>k b o (λz=>hc (by simp[z])) e) (λb o _ _ hc e _=>⟨o.slots,k b o (λz=>hc (by simp[z])) e⟩) (λ_ _ _ _ n=>n)
  (λb o hc e=>⟨o,k b o (λz=>hc (by simp[z])) e⟩) (λ_ _ e=>e) (λ_ _ _ e=>e) (λ_ _ e=>e) (λm hm=>?_) (λb u e=>?_) I.bare
 .
  have e:b=it:=by simpa using hb
  subst e;exact⟨h1,hL,h2,h3⟩
 . obtain⟨o,es,ep,ho,r⟩:=hm;exact⟨o,es,ep,k _ o (NH hL) ho,r⟩
 .
  refine(I.hok b u e).stay (λc v hc q=>k c v ?_ q) (λ_ q=>q) (λ_ _ q=>q) λ_ _ _ _ q=>q;rcases hc with z|z
  . rw[z];exact nit b u e
  . exact nit c _ z
theorem IR.tok(I:IR X gV σ H s)(t:Nat):IR X gV σ H {s with toks:=t}:=I.un (h':=s.heap) (t':=t) Un.refl I.hok
theorem IR.kept{t':Nat}(I:IR X gV σ H s)(k:∀b u,s.heap.get? b=some u->h'.get? b=some u):IR X gV σ H {s with heap:=h',toks:=t' }:=I.un (Un.kept k) (I.hok.kept k)
theorem IR.laid{a:Addr}{o:HO}{t':Nat}(I:IR X gV σ H s)(k:∀b u,s.heap.get? b=some u->h'.get? b=some u)(hp:s.heap.objs.size<=a)(new:cg X.prog X.w (IH H a o) h' a o) :
  IR X gV σ (IH H a o) {s with heap:=h',toks:=t' }:=I.un (Un.laid k hp (I.hok.fresh hp)) (I.hok.laid k hp new)
theorem IR.write{x e:Addr}{o:HO}{t':Nat}(I:IR X gV σ H s)(mu:IJ (H x))(he:e=x∨H e=some (.own x))(k:∀b u,b≠e->s.heap.get? b=some u->h'.get? b=some u)(heo:∃u,h'.get? e=some u)
  (new:cg X.prog X.w (IH H x o) h' x o):IR X gV σ (IH H x o) {s with heap:=h',toks:=t' }:=I.un (Un.write mu he k heo) (I.hok.write mu he k heo new)
theorem IR.pins_of{pins':List (Addr×Obj)}(I:IR X gV σ H s)(h:∀p∈pins',s.heap.get? p.1=some p.2/\H p.1=none/\p.1≠X.env.locals/\p.1∉X.fs/\∀v,p.2.data≠.cell v):IR X pins' σ H s :=
 ⟨I.ok,I.os,I.bare,I.base,I.loc,I.cell,I.free,I.freeC,λp hp=>(ML.mp hp).elim (λz=>I.pin p (MJ _ z)) (h p),I.hok,I.len⟩
theorem oz{N:List Str}(hN:N.Nodup){i j:Nat}{x:Str}(a:N[i]?=some x)(b:N[j]?=some x):i=j:=by obtain⟨h1,e1⟩:=Mx.mp a;obtain⟨h2,e2⟩:=Mx.mp b;exact(List.getElem_inj hN).mp (e1.trans e2.symm)
theorem vz{M:Model}{A:Around}{E:Value->Shared->Prop}{i:Nat}{x:Str}{v:V}{u:Value}{Q:Unit->Shared->Prop}(I:IR X gV σ H s)(hN:X.N.Nodup)(hi:X.N[i]?=some x)(hx:IQ X.env.scope x)(r:bF v u)
  (h:∀s',IR X gV (σ.set i (some v)) H s'->(∃a,Heap.SameBut a s.heap s'.heap/\(a=X.env.locals∨X.env.cells.lookup x=some a))->Q () s') (hf:X.fn x=true∨X.env.scope.names.lookup x=some .local:=by first|exact .inl rfl|exact .inr rfl|assumption):wpAny M A (storeName X.env x u) Q E s:=by
 obtain⟨m,hn,hl⟩:=id I.loc;have hcls:(X.env.scope.kind == .class ||(X.env.scope.kind == .module && X.env.locals != X.env.globals))=false:=by rw[I.ok.kind];rfl
 have hiσ:i<σ.length:=by rw[I.len];exact(Mx.mp hi).1
 have cne:=I.cne
 have tracked:∀{a:Addr}{h':Heap},(∃o,s.heap.get? a=some o/\H a=none)->Heap.SameBut a s.heap h'->II X.prog X.w H h':=λ{a h'} ha hs b ob e=>by
  obtain⟨_,_,hfree⟩:=ha;refine(I.hok b ob e).stay (λc w' hc q=>(hs.2 c ?_).trans q) (λ_ q=>q) (λ_ _ q=>q) λ_ _ _ _ q=>q;rintro rfl;rcases hc with rfl|hc
  . rw[hfree]at e;cases e
  . rw[hfree]at hc;cases hc
 rcases hx with hk|hk
 .
  refine wpAny_storeName_local hk hn (λh' hn' hs=>?_) hcls;obtain⟨oL,_,_,hoL,_⟩:=id hn;refine h _ ⟨I.ok,I.os,I.bare,⟨λb o e n hb hx=>?_,λb o e n hb hx=>?_,I.base.free,λb o e hx=>?_,I.base.tups,I.base.frzs,I.base.tbls⟩,⟨_,hn',λj y v' e1 e2 e3=>?_⟩,λy c e=>?_,I.free,I.freeC,λp hp=>?_,tracked ⟨oL,hoL,I.free⟩ hs,by simpa using I.len⟩ ⟨_,hs,.inl rfl⟩
  . exact(hs.2 b (MO (Mz (MA e) I.ok.above))).trans (I.base.keep b o e n hb hx)
  . obtain⟨sl,e1⟩:=I.base.slot b o e n hb hx;exact⟨sl,(hs.2 b (MO (Mz (MA e) I.ok.above))).trans e1⟩
  . obtain⟨o',e1⟩:=I.base.there b o e hx;exact⟨o',(hs.2 b (MO (Mz (MA e) I.ok.above))).trans e1⟩
  .
   by_cases hj:j=i
   . subst hj;rw[hi]at e1;cases e1;rw[Nj hiσ]at e2;cases e2;exact⟨u,r,.inl ⟨hk,v6⟩⟩
   .
    rw[Nz (NH hj)]at e2;obtain⟨u',r',q⟩:=hl j y v' e1 e2 e3;refine⟨u',r',?_⟩;rcases q with⟨k,e⟩|⟨k,c,e,z⟩
    . refine .inl ⟨k,?_⟩;have:y≠x:=λe=>hj (oz hN e1 (e ▸ hi));simp[this,e]
    . exact .inr ⟨k,c,e,z.sameBut hs (cne y c e)⟩
  . obtain⟨w',z⟩:=I.cell y c e;exact⟨w',z.sameBut hs (cne y c e)⟩
  . obtain⟨e,n,ne,nf,d⟩:=I.pin p hp;exact⟨(hs.2 p.1 ne).trans e,n,ne,nf,d⟩
 .
  have hfn:X.fn x=true:=by
   rcases hf with z|z
   . exact z
   . rw[z]at hk;cases hk
  obtain⟨c,hc⟩:=I.ok.has x (.inl hk);obtain⟨w',z⟩:=I.cell x c hc;refine wpAny_storeName_cell I.ok.kind hk hc z (λh' hc' hs=>?_);obtain⟨oc,hoc,hocd⟩:=id z;refine h {s with heap:=h' } ⟨I.ok,I.os,I.bare,⟨λb o e n hb hx=>?_,λb o e n hb hx=>?_,I.base.free,λb o e hx=>?_,I.base.tups,I.base.frzs,I.base.tbls⟩,⟨m,hn.sameBut hs (NH (cne x c hc)),λj y v' e1 e2 e3=>?_⟩,λy c' e=>?_,I.free,I.freeC,λp hp=>?_,tracked ⟨oc,hoc,(I.freeC x c hc).resolve_right λz=>by rw[hfn]at z;exact absurd z.1 x_⟩ hs,by simpa using I.len⟩ ⟨c,hs,.inr hc⟩
  . exact(hs.2 b (MO (Mz (MA e) (I.ok.cab x c hfn hc)))).trans (I.base.keep b o e n hb hx)
  . obtain⟨sl,e1⟩:=I.base.slot b o e n hb hx;exact⟨sl,(hs.2 b (MO (Mz (MA e) (I.ok.cab x c hfn hc)))).trans e1⟩
  . obtain⟨o',e1⟩:=I.base.there b o e hx;exact⟨o',(hs.2 b (MO (Mz (MA e) (I.ok.cab x c hfn hc)))).trans e1⟩
  .
   by_cases hj:j=i
   . subst hj;rw[hi]at e1;cases e1;rw[Nj hiσ]at e2;cases e2;exact⟨u,r,.inr ⟨.inl hk,c,hc,hc'⟩⟩
   .
    rw[Nz (NH hj)]at e2;obtain⟨u',r',q⟩:=hl j y v' e1 e2 e3;refine⟨u',r',?_⟩;rcases q with q|⟨k,c',e,z'⟩
    . exact .inl q
    . refine .inr ⟨k,c',e,z'.sameBut hs ?_⟩;rintro rfl;exact hj (oz hN e1 (I.ok.inj _ _ _ e hc ▸ hi))
  .
   by_cases hcc:c'=c
   . subst hcc;exact⟨_,hc'⟩
   . obtain⟨w2,z2⟩:=I.cell y c' e;exact⟨w2,z2.sameBut hs hcc⟩
  . obtain⟨e,n,ne,nf,d⟩:=I.pin p hp;refine⟨(hs.2 p.1 ?_).trans e,n,ne,nf,d⟩;intro q;rw[q,hoc]at e;have q':oc=p.2:=MZ e;exact d w' (by rw[<- q'];exact hocd)
theorem iB{M:Model}{A:Around}{E:Value->Shared->Prop}{i:Nat}{x:Str}{v:V}{u:Value}{Q:Unit->Shared->Prop}(I:IR X gV σ H s)(hN:X.N.Nodup)(hi:X.N[i]?=some x)(hx:IQ X.env.scope x)(r:bF v u)
  (h:∀s',IR X gV (σ.set i (some v)) H s'->Q () s') (hf:X.fn x=true∨X.env.scope.names.lookup x=some .local:=by first|exact .inl rfl|exact .inr rfl|assumption):wpAny M A (storeName X.env x u) Q E s :=
 vz I hN hi hx r (λs' I' _=>h s' I') hf
theorem IR.call'{s':Shared}{ch:List Addr}(I:IR X gV σ H s)(ho:s'.os=s.os)(u:Un (IM X.stack) ch H H' s.heap s'.heap)(hok:II X.prog X.w H' s'.heap)(hg:AllBare s'.gens)
  (hch:∀b∈ch,(b∈X.ex∨X.s₀.heap.objs.size<=b)/\b≠X.env.locals/\(∀x c,X.env.cells.lookup x=some c->c≠b)/\∀p∈X.pn++gV,p.1≠b):IR X gV σ H' s':=by
 obtain⟨h',g',d',t',o'⟩:=s';have e:o'=s.os:=ho;subst e;exact I.call (g':=g') (t':=t') (d':=d') u hok hg hch
end
noncomputable abbrev XK:=Value->Option Addr->Hp->Prop
noncomputable abbrev St:=List (Option V)
noncomputable abbrev VK:=V->Hp->Prop
abbrev TE:=St->Hp->VK->Prop
noncomputable abbrev TT:=St->Hp->(Bool->Hp->Prop)->Prop
noncomputable abbrev TA:=St->Hp->(List V->Hp->Prop)->Prop
structure CY where
 nx:St->Hp->Prop
 rt:VK
 bk:St->Hp->Prop:=λ_ _=>False
 ct:St->Hp->Prop:=λ_ _=>False
abbrev TS:=CY->St->Hp->Prop
def EP(X:Cx)(gV:List (Addr×Obj))(σ:St)(Q:VK)(u:Value)(s':Shared):Prop:=∃v H',IR X gV σ H' s'/\bF v u/\Q v H'
def TP(X:Cx)(gV:List (Addr×Obj))(σ:St)(Q:Bool->Hp->Prop)(b:Bool)(s':Shared):Prop:=∃H',IR X gV σ H' s'/\Q b H'
def AP(X:Cx)(gV:List (Addr×Obj))(σ:St)(Q:List V->Hp->Prop)(us:List Value)(s':Shared):Prop:=∃vs H',IR X gV σ H' s'/\bL vs us/\Q vs H'
def SP(X:Cx)(gV:List (Addr×Obj))(D:CY)(f:Flow)(s':Shared):Prop :=
 match f with
 |.next=>∃σ' H',IR X gV σ' H' s'/\D.nx σ' H'
 |.brk=>∃σ' H',IR X gV σ' H' s'/\D.bk σ' H'
 |.cont=>∃σ' H',IR X gV σ' H' s'/\D.ct σ' H'
 |.ret u=>∃v σ' H',IR X gV σ' H' s'/\bF v u/\D.rt v H'
def PE(X:Cx)(e:Expr)(t:TE):Prop :=
 ∀(gV:List (Addr×Obj))(s:Shared)(σ:St)(H:Hp)(Q:VK),IR X gV σ H s->t σ H Q->wpAny (model X.prog X.w) X.A (eval e X.env) (EP X gV σ Q) X.xe s
def PT(X:Cx)(e:Expr)(t:TT):Prop :=
 ∀(gV:List (Addr×Obj))(s:Shared)(σ:St)(H:Hp)(Q:Bool->Hp->Prop),IR X gV σ H s->t σ H Q->wpAny (model X.prog X.w) X.A (isTrue e X.env (eval e X.env)) (TP X gV σ Q) X.xe s
def PA(X:Cx)(es:List Expr)(t:TA):Prop :=
 ∀(pos:Pos)(gV:List (Addr×Obj))(s:Shared)(σ:St)(H:Hp)(Q:List V->Hp->Prop),IR X gV σ H s->t σ H Q->wpAny (model X.prog X.w) X.A (spliced (backTo pos (starEach es X.env))) (AP X gV σ Q) X.xe s
def PS(X:Cx)(st:Stmt)(t:TS):Prop :=
 ∀(gV:List (Addr×Obj))(s:Shared)(σ:St)(H:Hp)(D:CY),IR X gV σ H s->t D σ H->wpAny (model X.prog X.w) X.A (exec st X.env) (SP X gV D) X.xe s
def IS(X:Cx)(st:List Stmt)(t:TS):Prop :=
 ∀(gV:List (Addr×Obj))(s:Shared)(σ:St)(H:Hp)(D:CY),IR X gV σ H s->t D σ H->wpAny (model X.prog X.w) X.A (execs st X.env) (SP X gV D) X.xe s
theorem IT{α:Type}{t:Sem α}{Q Q':α->Shared->Prop}{M:Model}{A:Around}{E:Value->Shared->Prop}{s:Shared}(h:wpAny M A t Q E s)(hQ:∀a s,Q a s->Q' a s):wpAny M A t Q' E s:=Np h hQ λ_ _ x=>x
section
variable{X:Cx}
theorem IU{a b:Expr}{ta tb:TE}(ha:PE X a ta)(hb:PE X b tb){gV:List (Addr×Obj)}{s:Shared}{σ:St}{H:Hp}{R:V->V->Hp->Prop}(I:IR X gV σ H s)(h:ta σ H λx H1=>tb σ H1 λy H2=>R x y H2)
  {α:Type} {Q:α->Shared->Prop} {f:Value->Value->Sem α}
  (hf:∀v u s2 x y H2,IR X gV σ H2 s2->bF x v->bF y u->R x y H2->wpAny (model X.prog X.w) X.A (f v u) Q X.xe s2) :
  wpAny (model X.prog X.w) X.A (eval a X.env) (λv s₁=>wpAny (model X.prog X.w) X.A (eval b X.env) (λu s₂=>wpAny (model X.prog X.w) X.A (f v u) Q X.xe s₂) X.xe s₁) X.xe s:=by
 refine IT (ha gV s σ H _ I h) λv s1 ⟨x,H1,I1,r1,q1⟩=>?_;refine IT (hb gV s1 σ H1 _ I1 q1) λu s2 ⟨y,H2,I2,r2,q2⟩=>?_;exact hf v u s2 x y H2 I2 r1 r2 q2
def yo(i:Nat):TE:=λσ H Q=>∃v,σ[i]?=some (some v)/\Q v H
def tC(v:V):TE:=λ_ H Q=>Q v H
theorem cm{i:Nat}{x:Str}{pos:Pos}(hN:X.N[i]?=some x)(hv:IP X.env.scope x) (hd:(x == ("__debug__" : Str))=false:=by decide) (hcd:(x == ("__classdict__" : Str))=false:=by decide):PE X (.Name x pos) (yo i):=by
 intro gV s σ H Q I h;obtain⟨v,e,h⟩:=h;obtain⟨m,hn,hl⟩:=I.loc;obtain⟨u,r,l⟩:=hl i x v hN e hv;have IV:EP X gV σ Q u s:=⟨v,H,I,r,h⟩;rcases l with⟨hk,hm⟩|⟨hk,c,hc,hcell⟩
 . exact wpAny_Name (wpAny_loadName_local I.ok.kind hk hn hm IV) hd
 .
  rcases hk with hk|hk
  . exact wpAny_Name (wpAny_loadName_cell I.ok.kind hk hc hcell IV) hd
  . exact wpAny_Name (wpAny_loadName_free I.ok.kind hk hc hcell IV hcd) hd
theorem Ai {i j pos}:PE X (.Constant (.int i) j pos) (tC (.int i)):=λ_ _ _ H _ I h=>wpAny_Constant_int ⟨.int i,H,I.tok _,⟨_,rfl⟩,h⟩
theorem FJ {b j pos}:PE X (.Constant (.bool b) j pos) (tC (.bl b)):=λ_ _ _ H _ I h=>Constant_bool ⟨.bl b,H,I,rfl,h⟩
theorem C8 {j pos}:PE X (.Constant .none j pos) (tC .non):=λ_ _ _ H _ I h=>Constant_none ⟨.non,H,I,rfl,h⟩
theorem vA {x j pos}:PE X (.Constant (.str x) j pos) (tC (.str x)):=λ_ _ _ H _ I h=>Calls.Constant_str ⟨.str x,H,I.tok _,⟨_,rfl⟩,h⟩
def Gl(X:Cx)(x:Str):Prop:=X.env.kindOf x=some .globalImplicit
theorem fV{E:Value->Shared->Prop}{gV:List (Addr×Obj)}{s:Shared}{σ:St}{H:Hp}{x:Str}{u:Value}{pos:Pos}{Q:Value->Shared->Prop}(I:IR X gV σ H s)(hg:Gl X x)(hm:X.mg x=some u)(h:Q u s)
  (hd:(x == ("__debug__" : Str))=false:=by decide):wpAny (model X.prog X.w) X.A (eval (.Name x pos) X.env) Q E s :=
 Calls.Name_function_global I.ok.kind hg (Calls.loadGlobal_global (by rw[I.ok.glob];exact I.mod.glob.keeps I.bk) hm h) hd
theorem k9{E:Value->Shared->Prop}{gV:List (Addr×Obj)}{s:Shared}{σ:St}{H:Hp}{x:Str}{u:Value}{pos:Pos}{Q:Value->Shared->Prop}(I:IR X gV σ H s)(hg:Gl X x)(hm:X.mg x=none)(hv:bootBuiltins x=some u)(h:Q u s)
  (hn:x≠"__name__":=by decide) (hd:(x == ("__debug__" : Str))=false:=by decide):wpAny (model X.prog X.w) X.A (eval (.Name x pos) X.env) Q E s:=by
 obtain⟨mb,h1,h2⟩:=I.mod.blt;exact Calls.Name_function_global I.ok.kind hg (Calls.loadGlobal_builtin (by rw[I.ok.glob];exact I.mod.glob.keeps I.bk) hm (by rw[I.ok.blt];exact h1.keeps I.bk) ((h2 x hn).trans hv) h) hd
theorem rg{x:Str}{v:V}{u:Value}{pos:Pos}(hg:Gl X x)(hm:X.mg x=some u)(r:bF v u) (hd:(x == ("__debug__" : Str))=false:=by decide):PE X (.Name x pos) (tC v) :=
 λ_ _ _ H _ I h=>fV I hg hm ⟨v,H,I,r,h⟩ hd
theorem AM{x:Str}{v:V}{u:Value}{pos:Pos}(hg:Gl X x)(hm:X.mg x=none)(hv:bootBuiltins x=some u)(r:bF v u) (hn:x≠"__name__":=by decide) (hd:(x == ("__debug__" : Str))=false:=by decide):PE X (.Name x pos) (tC v) :=
 λ_ _ _ H _ I h=>k9 I hg hm hv ⟨v,H,I,r,h⟩ hn hd
variable{a b:Expr}{ta tb:TE}{pos:Pos}
noncomputable def tB(t:TE):TT:=λσ H Q=>t σ H λx H1=>∃c,x=.bl c/\Q c H1
end
def IW(K:PySem.W.Frag)(H:Hp)(a:Addr)(xs:List V):Prop :=
 Rd H a (.lst xs) ∨
  ∃(o:Obj)(its:Array Value)(n:Nat),K.lookup a=some o/\o.cls=.type "list"/\o.dict=none/\o.data=.seq its n/\its.size<=sizeLine/\bL xs its.toList
def IX(K:PySem.W.Frag)(H:Hp)(a:Addr)(xs:List V):Prop :=
 Rd H a (.tup xs) ∨
  ∃(o:Obj)(its:Array Value)(n:Nat),K.lookup a=some o/\o.cls=.type "tuple"/\o.data=.seq its n/\its.size<=sizeLine/\bL xs its.toList
noncomputable def HF:Value->Option V
 |.none=>some .non
 |.bool b=>some (.bl b)
 |.int i _=>some (.int i)
 |.str x _=>some (.str x)
 |.bytes b _=>some (.byt b)
 |.float b _=>some (.flt b)
 |.ref a=>some (.ref a)
 |.type n=>some (.ty n)
 |_=>none
theorem bF.abs{x:V}{u:Value}(r:bF x u):HF u=some x:=by
 cases x with
 |non=>cases r;rfl
 |bl _=>cases r;rfl
 |int _=>obtain⟨t,rfl⟩:=r;rfl
 |str _=>obtain⟨t,rfl⟩:=r;rfl
 |byt _=>obtain⟨t,rfl⟩:=r;rfl
 |flt _=>obtain⟨t,rfl⟩:=r;rfl
 |ref _=>cases r;rfl
 |ty _=>cases r;rfl
theorem bF.inj{x y:V}{u:Value}(r:bF x u)(q:bF y u):x=y:=MZ (r.abs.symm.trans q.abs)
theorem bL.inj:∀{xs ys:List V}{us:List Value},bL xs us->bL ys us->xs=ys
 |_,_,_,.nil,.nil=>rfl
 |_,_,_,.cons r t,.cons r' t'=>by rw[r.inj r',bL.inj t t']
section
variable{X:Cx}{gV:List (Addr×Obj)}{σ:St}{H:Hp}{s:Shared}{a:Addr}{xs ys:List V}
theorem IW.of{K:PySem.W.Frag}(h:H a=some (.lst xs)):IW K H a xs:=.inl (.inl h)
theorem IX.of{K:PySem.W.Frag}(h:H a=some (.tup xs)):IX K H a xs:=.inl (.inl h)
theorem IR.list(I:IR X gV σ H s)(h:IW X.K H a xs):∃its:List Value,bL xs its/\PlainL s.heap a its.toArray/\xs.length<=sizeLine:=by
 rcases h with h|⟨o,its,n,hk,hc,hd,hs,hz,r⟩
 . obtain⟨z,its,n,r,e⟩:=h.ok I.hok;exact⟨its,r,⟨_,n,e,rfl,rfl,rfl⟩,z⟩
 . refine⟨its.toList,r,⟨o,n,I.kIn a o hk,hc,hd,by simpa using hs⟩,?_⟩;have e:=r.length;simp only[Of]at e;omega
theorem IR.tuple(I:IR X gV σ H s)(h:IX X.K H a xs):∃its:List Value,bL xs its/\IsTup s.heap a its.toArray/\xs.length<=sizeLine:=by
 rcases h with h|⟨o,its,n,hk,hc,hs,hz,r⟩
 . obtain⟨z,its,r,p⟩:=h.ok I.hok;exact⟨its,r,p,z⟩
 . refine⟨its.toList,r,⟨o,I.kIn a o hk,hc,n,by simpa using hs⟩,?_⟩;have e:=r.length;simp only[Of]at e;omega
theorem IR.list_inj(I:IR X gV σ H s)(h:IW X.K H a xs)(h':IW X.K H a ys):xs=ys:=by
 obtain⟨its,r,⟨o,n,e,_,_,d⟩,_⟩:=I.list h;obtain⟨its',r',⟨o',n',e',_,_,d'⟩,_⟩:=I.list h';rw[e]at e';cases e';rw[d]at d';injection d' with d1 _;have:its=its':=by simpa using Os Array.toList d1
 subst this;exact r.inj r'
end
noncomputable abbrev Cx.wish(X:Cx)(E:Value->Shared->Prop):Cx:={X with xe:=E}
noncomputable abbrev Cx.nox(X:Cx):Cx:=X.wish λ_ _=>False
theorem Cx.Ok.wish{X:Cx}(ok:X.Ok)(E:Value->Shared->Prop):(X.wish E).Ok :=
 ⟨ok.mod,ok.kind,ok.glob,ok.blt,ok.above,ok.inj,ok.has,ok.cab,ok.hd,ok.frames,ok.stk,ok.exf,ok.bs,ok.bsz,ok.noex,ok.exfs,ok.funs,ok.frf,ok.tbs⟩
theorem Cx.Ok.unwish{X:Cx}{E:Value->Shared->Prop}(ok:(X.wish E).Ok):X.Ok :=
 ⟨ok.mod,ok.kind,ok.glob,ok.blt,ok.above,ok.inj,ok.has,ok.cab,ok.hd,ok.frames,ok.stk,ok.exf,ok.bs,ok.bsz,ok.noex,ok.exfs,ok.funs,ok.frf,ok.tbs⟩
section
variable{X:Cx}{gV:List (Addr×Obj)}{σ:St}{H:Hp}{s:Shared}{E:Value->Shared->Prop}
theorem IR.wish(I:IR X gV σ H s)(E:Value->Shared->Prop):IR (X.wish E) gV σ H s:=⟨I.ok.wish E,I.os,I.bare,I.base,I.loc,I.cell,I.free,I.freeC,I.pin,I.hok,I.len⟩
theorem IR.unwish(I:IR (X.wish E) gV σ H s):IR X gV σ H s:=⟨I.ok.unwish,I.os,I.bare,I.base,I.loc,I.cell,I.free,I.freeC,I.pin,I.hok,I.len⟩
theorem SP.unwish{D:CY}{f:Flow}{s':Shared}(h:SP (X.wish E) gV D f s'):SP X gV D f s':=by
 cases f with
 |next=>obtain⟨σ',H',I,q⟩:=h;exact⟨σ',H',I.unwish,q⟩
 |brk=>obtain⟨σ',H',I,q⟩:=h;exact⟨σ',H',I.unwish,q⟩
 |cont=>obtain⟨σ',H',I,q⟩:=h;exact⟨σ',H',I.unwish,q⟩
 |ret u=>obtain⟨v,σ',H',I,r,q⟩:=h;exact⟨v,σ',H',I.unwish,r,q⟩
theorem IS.nox{st:List Stmt}{t:TS}(h:IS X.nox st t):IS X st t:=λgV s σ H D I hw =>
 Np (h gV s σ H D (I.wish _) hw) (λ_ _ q=>q.unwish) λ_ _ z=>False.elim z
end
section
variable{X:Cx}{st:Stmt}{dm:List Stmt}{t u:TS}{e:Expr}{te:TE}{pos:Pos}
def FK(t u:TS):TS:=λD σ H=>t {D with nx:=u D} σ H
theorem sR(h1:PS X st t)(h2:IS X dm u):IS X (st::dm) (FK t u):=by
 intro gV s σ H D I h;refine wpAny_execs_cons (IT (h1 gV s σ H {D with nx:=u D} I h) λf s1 q=>?_)
 cases f with
 | next =>
  obtain⟨σ',H',I',q⟩:=q;exact h2 gV s1 σ' H' D I' q
 |ret v=>exact q
 |brk=>exact q
 |cont=>exact q
theorem vB(h1:PS X st t):IS X [st] t:=by
 intro gV s σ H D I h;refine wpAny_execs_cons (IT (h1 gV s σ H D I h) λf s1 q=>?_)
 cases f with
 |next=>exact N8 q
 |ret v=>exact q
 |brk=>exact q
 |cont=>exact q
theorem IR.quiet{gV:List (Addr×Obj)}{σ:St}{H:Hp}{s:Shared}(I:IR X gV σ H s):interactive X.env=false:=by simp[interactive,I.ok.kind]
def AN(te:TE):TS:=λD σ H=>te σ H λ_ H1=>D.nx σ H1
theorem vC(he:PE X e te)(hs:swapsWith e none pos.line X.env=pure false:=by rfl):PS X (.Expr e pos) (AN te):=by intro gV s σ H D I h;exact wpAny_Expr_any (IT (he gV s σ H _ I h) λv s1 ⟨x,H1,I1,r1,q1⟩=>⟨σ,H1,I1,q1⟩) I.quiet hs
end
noncomputable abbrev TG:=V->St->Hp->(St->Hp->Prop)->Prop
noncomputable abbrev IY:=List V->St->Hp->(St->Hp->Prop)->Prop
def PG(X:Cx)(target:Expr)(t:TG):Prop :=
 ∀(gV:List (Addr×Obj))(s:Shared)(σ:St)(H:Hp)(v:V)(u:Value)(Q:St->Hp->Prop),IR X gV σ H s->bF v u->t v σ H Q ->
  wpAny (model X.prog X.w) X.A (assign target X.env u) (λ_ s'=>∃σ' H',IR X gV σ' H' s'/\Q σ' H') X.xe s
def I0(X:Cx)(ts:List Expr)(t:IY):Prop :=
 ∀(gV:List (Addr×Obj))(s:Shared)(σ:St)(H:Hp)(vs:List V)(us:List Value)(Q:St->Hp->Prop),IR X gV σ H s->bL vs us->t vs σ H Q ->
  wpAny (model X.prog X.w) X.A (assignInOrder ((assignEach ts X.env).map (·.2)) us) (λ_ s'=>∃σ' H',IR X gV σ' H' s'/\Q σ' H') X.xe s
noncomputable abbrev FL:=V->V->V->Hp->(Hp->Prop)->Prop
def G6(X:Cx)(t:FL):Prop :=
 ∀(gV:List (Addr×Obj))(s:Shared)(σ:St)(H:Hp)(o i v:V)(ov iv u:Value)(Q:Hp->Prop),IR X gV σ H s->bF o ov->bF i iv->bF v u->t o i v H Q ->
  wpAny (model X.prog X.w) X.A (setItem ov iv u) (λ_ s'=>∃H',IR X gV σ H' s'/\Q H') X.xe s
section
variable{X:Cx}{pos:Pos}
noncomputable def FM(i:Nat):TG:=λv σ H Q=>Q (σ.set i (some v)) H
theorem rh{i:Nat}{x:Str}(hN:X.N.Nodup)(hi:X.N[i]?=some x)(hx:IQ X.env.scope x)(hf:X.fn x=true∨X.env.scope.names.lookup x=some .local:=by first|exact .inl rfl|exact .inr rfl|assumption):PG X (.Name x pos) (FM i):=by intro gV s σ H v u Q I r h;exact wpAny_assign_Name (iB I hN hi hx r (λs' I'=>⟨_,H,I',h⟩) hf)
noncomputable def HG:IY:=λvs σ H Q=>vs=[]/\Q σ H
noncomputable def FN(t:TG)(u:IY):IY:=λvs σ H Q=>∃v r,vs=v::r/\t v σ H λσ' H'=>u r σ' H' Q
theorem AO:I0 X [] HG:=by intro gV s σ H vs us Q I r h;obtain⟨e,h⟩:=h;subst e;cases r;exact assignInOrder_nil ⟨σ,H,I,h⟩
theorem yp{e:Expr}{es:List Expr}{t:TG}{u:IY}(h1:PG X e t)(h2:I0 X es u)
  (hs:(assignEach (e::es) X.env).map (·.2)=assign e X.env::(assignEach es X.env).map (·.2):=by rfl):I0 X (e::es) (FN t u):=by
 intro gV s σ H vs us Q I r h;obtain⟨v,vr,e1,h⟩:=h;subst e1
 cases r with
 | cons r rr =>
  rw[hs];refine assignInOrder_cons (IT (h1 gV s σ H _ _ _ I r h) λ_ s1 ⟨σ1,H1,I1,q1⟩=>?_);exact h2 gV s1 σ1 H1 _ _ Q I1 rr q1
noncomputable def HH(K:PySem.W.Frag)(n:Nat)(t:IY):TG:=λv σ H Q=>∃a xs,v=.ref a/\IX K H a xs/\xs.length=n/\t xs σ H Q
theorem C9{es:List Expr}{k:Nat}{t:IY}{n:Nat}(hc:X.calm=true)(h:I0 X es t)
  (hn:(assignEach es X.env).length=n:=by rfl) (hst:(assignEach es X.env).findIdx? (·.1)=none:=by rfl):PG X (.Tuple es k pos) (HH X.K n t):=by
 intro gV s σ H v u Q I r hw;obtain⟨a,xs,e1,hq,hl,hw⟩:=hw;subst e1;cases r;obtain⟨its,rv,ht,hz⟩:=I.tuple hq;refine assign_Tuple_tuple (I.ok.hd hc) ht (by simp[hn,<- hl,rv.length]) hst λh' hx=>?_;have I1:IR X gV σ H {s with heap:=h' }:=I.kept (t':=s.toks) λb o e=>hx b o (MO (MA e)) e;exact h gV _ σ H xs _ Q I1 (by simpa using rv) hw
noncomputable def HI(to ti:TE)(t:FL):TG:=λv σ H Q=>to σ H λo H1=>ti σ H1 λi H2=>t o i v H2 λH3=>Q σ H3
theorem Da{o i:Expr}{to ti:TE}{t:FL}(ho:PE X o to)(hi:PE X i ti)(hs:G6 X t)
  (ha:∀v,assign (.Subscript o i pos) X.env v=(do
   let ov <- holding [v] (eval o X.env)
   let iv <- holding [v,ov] (eval i X.env)
   standAt pos
   holding [v,ov,iv] (setItem ov iv v)
   release [v,ov,iv] []):=by intro _;rfl):PG X (.Subscript o i pos) (HI to ti t):=by
 intro gV s σ H v u Q I r h;rw[ha];refine kS (NT (IT (ho gV s σ H _ I h) λov s1 ⟨x,H1,I1,r1,q1⟩=>?_));refine kS (NT (IT (hi gV s1 σ H1 _ I1 q1) λiv s2 ⟨y,H2,I2,r2,q2⟩=>?_));refine kS (wpAny_standAt (kS (NT (IT (hs gV s2 σ H2 x y v ov iv u _ I2 r1 r2 r q2) λ_ s3 ⟨H3,I3,q3⟩=>?_))));exact wpAny_release ⟨σ,H3,I3,q3⟩
def HJ(te:TE)(g:TG):TS:=λD σ H=>te σ H λx H1=>g x σ H1 D.nx
theorem Dc{tg e:Expr}{te:TE}{g:TG}(he:PE X e te)(hg:PG X tg g)(hs:swapsWithSole [tg] e pos.line X.env=pure false:=by rfl)(hw:swappedStores [tg] e X.env=pure none:=by rfl)
  (h1:(assignEach [tg] X.env).map (·.2)=[assign tg X.env]:=by rfl):PS X (.Assign [tg] e pos) (HJ te g):=by
 intro gV s σ H D I h;refine wpAny_Assign_stores (IT (he gV s σ H _ I h) λv s1 ⟨x,H1,I1,r1,q1⟩=>?_) hs hw;rw[h1];exact IT (hg gV s1 σ H1 x v _ I1 r1 q1) λ_ s2 q=>q
def HK(i j:Nat)(ta:TA):TS:=λD σ H=>ta σ H λvs H1=>∃v w,vs=[v,w]/\D.nx ((σ.set i (some v)).set j (some w)) H1
theorem Dd{i j:Nat}{x y:Str}{a b:Expr}{ta:TA}{px py pt:Pos} {kt k2 pt2} (hc:X.calm=true) (hN:X.N.Nodup) (hi:X.N[i]?=some x) (hj:X.N[j]?=some y) (hij:i≠j)
  (hx:X.env.scope.names.lookup x=some .local) (hy:X.env.scope.names.lookup y=some .local) (ha:PA X [a,b] ta)
  (hw:swappedStores [.Tuple [.Name x px,.Name y py] kt pt] (.Tuple [a,b] k2 pt2) X.env=pure (some [x,y]))
  (hs:swapsWithSole [.Tuple [.Name x px,.Name y py] kt pt] (.Tuple [a,b] k2 pt2) pos.line X.env=pure false:=by rfl) :
  PS X (.Assign [.Tuple [.Name x px,.Name y py] kt pt] (.Tuple [a,b] k2 pt2) pos) (HK i j ta):=by
 intro gV s σ H D I h;rw[exec_Assign_arm];refine kS (wpAny_standAt ?_);rw[hs];refine kS (MB ?_);rw[if_neg (by decide)];refine kS (Tuple_ (IT (ha _ gV s σ H _ I h) λus s1 ⟨vs,H1,I1,r1,q1⟩=>?_));obtain⟨v,w,e1,q1⟩:=q1;subst e1
 obtain⟨u1,u2,rfl,rv,rw'⟩:∃u1 u2,us=[u1,u2]/\bF v u1/\bF w u2:=by
  cases r1 with
  | cons p q =>
   cases q with
   | cons p' q' =>
    cases q';exact⟨_,_,rfl,p,p'⟩
 refine NX ?_ (by show 2<=sizeLine;decide);have I2:IR X gV σ H1 {s1 with heap:=s1.heap.push {cls:=.type "tuple",data:=.seq [u1,u2].toArray} }:=I1.kept (t':=s1.toks) λb o e=>tu _ e;rw[hw];refine kS (MB ?_)
 show wpAny (model X.prog X.w) X.A (do rule "assign.swapped-stores"; let items <- unpackItems (.ref s1.heap.objs.size) 2 none; assignInOrder [λv=>bindName X.env y v,λv=>bindName X.env x v] items.reverse; pure Flow.next) _ _ _
 refine kS (wpAny_rule (kS (unpackItems_tuple (items:=#[u1,u2]) (I.ok.hd hc) (IsTup.new s1.heap _) λh' hx'=>?_)));have I3:=I2.kept (h':=h') (t':=s1.toks) λb o e=>hx' b o (MO (MA e)) e
 show wpAny _ _ (assignInOrder [λv=>bindName X.env y v,λv=>bindName X.env x v] [u2,u1] >>= λ_=>pure Flow.next) _ _ _
 refine kS (assignInOrder_cons (wpAny_bindName (iB I3 hN hj (.inl hy) rw' (λs2 I4=>?_) (.inr hy))));refine assignInOrder_cons (wpAny_bindName (iB I4 hN hi (.inl hx) rv (λs3 I5=>assignInOrder_nil (MB ?_)) (.inr hx)));rw[List.set_comm _ _ (NH hij)]at I5;exact⟨_,H1,I5,q1⟩
end
section
variable{X:Cx}{pos:Pos}
def De(c:TT)(tb:TS):TS:=λD σ H=>∃W:Nat->St->Hp->Prop,(∃m,W m σ H)/\∀m σ H,W m σ H ->
 c σ H λb H1=>if b=true then ∃N:St->Hp->Prop,(∀σ' H',N σ' H'->∃m',m' < m/\W m' σ' H')/\tb {D with nx:=N,ct:=N,bk:=D.nx} σ H1 else D.nx σ H1
theorem yq{c:Expr}{body:List Stmt}{tc:TT}{tb:TS}(hp:PassesOwn (model X.prog X.w) X.A X.env X.xe)(hc:PT X c tc)(hb:IS X body tb):PS X (.While c body [] pos) (De tc tb):=by
 intro gV s σ H D I h;obtain⟨W,⟨m0,w0⟩,turn⟩:=h;refine wpAny_While (codeAny_whileLoop (λn s'=>∃σ' H',IR X gV σ' H' s'/\W n σ' H') ?_ m0 ⟨σ,H,I,w0⟩);rintro n s1 ⟨σ1,H1,I1,w1⟩;refine N9 hp (IT (hc gV s1 σ1 H1 _ I1 (turn n σ1 H1 w1)) λb s2 ⟨H2,I2,q2⟩=>?_)
 cases b with
 | true =>
  obtain⟨N,hN,q2⟩:=q2;rw[if_pos rfl];refine N9 hp (IT (hb gV s2 σ1 H2 _ I2 q2) λf s3 q3=>?_)
  cases f with
  | next =>
   obtain⟨σ3,H3,I3,n3⟩:=q3;obtain⟨m',hm,w3⟩:=hN σ3 H3 n3;exact⟨m',hm,σ3,H3,I3,w3⟩
  | cont =>
   obtain⟨σ3,H3,I3,n3⟩:=q3;obtain⟨m',hm,w3⟩:=hN σ3 H3 n3;exact⟨m',hm,σ3,H3,I3,w3⟩
  |brk=>exact q3
  |ret v=>exact q3
 | false =>
  rw[if_neg M6];exact N8 ⟨σ1,H2,I2,q2⟩
end
structure It where
 go:Nat->Hp->Prop
 yld:Nat->Hp->V->Hp->Prop
 stop:Nat->Hp->Prop
def yh(X:Cx)(gV:List (Addr×Obj))(H:Hp)(b:Addr):Prop :=
 H b=none/\b≠X.env.locals/\b∉X.fs/\(b∈X.ex∨X.s₀.heap.objs.size<=b)/\(∀x c,X.env.cells.lookup x=some c->c≠b)/\∀p∈X.pn++gV,p.1≠b
theorem IR.fpOk{X:Cx}{gV:List (Addr×Obj)}{σ:St}{H H':Hp}{s:Shared}{b:Addr}(I:IR X gV σ H s)(hb:s.heap.objs.size<=b)(hn:H' b=none):yh X gV H' b:=by
 refine⟨hn,Nat.ne_of_gt (Mz I.lt hb),I.nofs hb,.inr (MH I.sz hb),λx c e z=>?_,λp hp z=>?_⟩
 . obtain⟨v,q⟩:=I.cell x c e;exact absurd (Mz q.lt (by rw[z];exact hb)) (Oe _)
 . exact absurd (Mz (MA (I.pin p hp).1) (by rw[z];exact hb)) (Oe _)
structure Df (P:Program) (w:World) (K:PySem.W.Frag) (tg:Expr) (J:It) (fp:List Addr) (it:Addr) (tn:Nat->Heap->Prop):Prop where
 mem:it∈fp
 obj:∀i h,tn i h->∀b∈fp,∃o,h.get? b=some o/\∀v,o.data≠.cell v
 keep:∀i h h',tn i h->(∀b∈fp,∀o,h.get? b=some o->h'.get? b=some o)->tn i h'
 item:∀(X:Cx),X.prog=P->X.w=w->X.K=K->X.calm=true->∀(i:Nat)(gV:List (Addr×Obj))(s:Shared)(σ:St)(H:Hp)(E:Value->Shared->Prop),IR X gV σ H s->(∀b∈fp,yh X gV H b)->tn i s.heap->J.go i H ->
  wpAny (model P w) X.A (pyNext (.ref it)) (λr s1=>∃u,r=some u /\
   wpAny (model P w) X.A (letOwnedTupleGo tg (.ref it) u) (λ_ s2=>∃x H',IR X gV σ H' s2/\bF x u/\J.yld i H x H'/\tn (i+1) s2.heap/\∀b∈fp,H' b=none) E s1) E s
 done:∀(X:Cx),X.prog=P->X.w=w->X.K=K->X.calm=true->∀(i:Nat)(gV:List (Addr×Obj))(s:Shared)(σ:St)(H:Hp)(E:Value->Shared->Prop),IR X gV σ H s->(∀b∈fp,yh X gV H b)->tn i s.heap->J.stop i H ->
  wpAny (model P w) X.A (pyNext (.ref it)) (λr s1=>r=none/\IR X gV σ H s1) E s
 self:∀(A:Around)(i:Nat)(s:Shared)(Q:Value->Shared->Prop)(E:Value->Shared->Prop),tn i s.heap->Q (.ref it) s->wpAny (model P w) A (pyIter (.ref it)) Q E s
noncomputable abbrev TI:=St->Hp->(It->Hp->Prop)->Prop
def Ja(X:Cx)(gV:List (Addr×Obj))(σ:St)(tg:Expr)(R:It->Hp->Prop)(itv:Value)(s2:Shared):Prop :=
 ∃(it:Addr)(fp:List Addr)(tn:Nat->Heap->Prop)(J:It)(H':Hp),itv=.ref it/\IR X gV σ H' s2/\Df X.prog X.w X.K tg J fp it tn/\tn 0 s2.heap/\(∀b∈fp,yh X gV H' b)/\R J H'
def PI(X:Cx)(tg iter:Expr)(wi:TI):Prop :=
 ∀(gV:List (Addr×Obj))(s:Shared)(σ:St)(H:Hp)(R:It->Hp->Prop),IR X gV σ H s->wi σ H R ->
  wpAny (model X.prog X.w) X.A (eval iter X.env) (λv s1=>wpAny (model X.prog X.w) X.A (pyIter v) (Ja X gV σ tg R) X.xe s1) X.xe s
theorem Dg {M : Model} {A : Around} {E : Value → Shared → Prop} {s : Shared} {tg : Expr} {it : Addr} {u : Value} {o : Obj} {n : String} {vs : Array Value} {Q : Unit → Shared → Prop} (ho : s.heap.get? it = some o) (hc : o.cls = .type n) (hd : o.data = .fields vs)
    (hn : ["enumerate", "zip", "dict_itemiterator", "dict_reverseitemiterator", "odict_iterator", "itertools.zip_longest", "itertools.pairwise"].contains n = false) (hQ : Q () s) : wpAny M A (letOwnedTupleGo tg (.ref it) u) Q E s := by
  unfold letOwnedTupleGo
  cases tg<;>first
    |exact MB hQ
    | (cases u<;>first
        |exact MB hQ
        | (refine kS (wpAny_load ho ?_)
           rw[hc, hd]
           show wpAny M A (if(["enumerate", "zip", "dict_itemiterator", "dict_reverseitemiterator", "odict_iterator", "itertools.zip_longest", "itertools.pairwise"].contains n && vs[0]? == some (rawInt _)) = true then _ else _) Q E s
           rw[if_neg (by intro h;rw[hn, Nx]at h;cases h)]
           exact MB hQ))
noncomputable def Jb(lo:Int)(n:Nat):It:=⟨λi _=>i<n,λi H x H'=>H'=H/\x=.int (lo+i),λi _=>n<=i⟩
theorem uw{P:Program}{w:World}{K:PySem.W.Frag}{tg:Expr}(it:Addr)(lo:Int)(n:Nat):Df P w K tg (Jb lo n) [it] it (λi h=>IsRangeIter h it (lo+(i:Nat)*1) ((n:Int)-(i:Nat)) 1) where
 mem:=by simp
 obj:=λi h st b hb=>by
  have e:b=it:=by simpa using hb
  subst e
  exact⟨_,st,λv z=>by
   have z':Data.fields _=Data.cell v:=z
   cases z'⟩
 keep:=λi h h' st k=>k it v6 _ st
 item:=by intro X hP hw hK hc i gV s σ H E I hf st hg;subst hP hw hK;obtain⟨f0,f1,f2,f3,f4,f5⟩:=hf it v6;have W:=Walks.range (prog:=X.prog) (w:=X.w) (I.ok.hd hc) it lo 1 n;refine W.item i s _ _ hg st λv h' tk hv st' kk=>?_;obtain⟨t,rfl⟩:=hv;have I1:IR X gV σ H {s with heap:=h',toks:=tk}:=I.turned (λb o hb e=>kk b o (by simpa using hb) e) f0 f1 f3 f4 f5;refine⟨_,rfl,Dg (s:={s with heap:=h',toks:=tk}) (n:="range_iterator") st' rfl rfl x_ ⟨.int (lo+i),H,I1,⟨t,?_⟩,⟨rfl,rfl⟩,st',λb hb=>(hf b hb).1⟩⟩;rw[Int.mul_one]
 done:=by intro X hP hw hK hc i gV s σ H E I hf st hg;subst hP hw hK;obtain⟨f0,f1,f2,f3,f4,f5⟩:=hf it v6;exact wpAny_pyNext_range_end (I.ok.hd hc) st (by have:n<=i:=hg;omega) λh' eb=>⟨rfl,I.turned (t':=s.toks) (λb o hb e=>eb b o hb e) f0 f1 f3 f4 f5⟩
 self:=λ_ _ _ _ _ st h=>wpAny_pyIter_rangeiter st h
section
variable{X:Cx}{tg:Expr}
theorem sS{gV:List (Addr×Obj)}{σ:St}{H:Hp}{s:Shared}{R:It->Hp->Prop}{E:Value->Shared->Prop}{lo hi:Int}{t u v:Tok}{tk:Nat}(I:IR X gV σ H s)(h1 : -(2^62)<=lo)(h2:lo<2^62)(h3 : -(2^62)<=hi)(h4:hi<2^62)
  (q:R (Jb lo (hi-lo).toNat) H):wpAny (model X.prog X.w) X.A (pyIter (.ref s.heap.objs.size)) (Ja X gV σ tg R) E {s with heap:=s.heap.push {cls:=.type "range",data:=.fields #[.int lo t,.int hi u,.int 1 v] },toks:=tk}:=by
 refine wpAny_pyIter_range (IsRange.new ..) (small_one h1 h2 h3 h4) ?_;have I1:IR X gV σ H {s with heap:=s.heap.push {cls:=.type "range",data:=.fields #[.int lo t,.int hi u,.int 1 v] },toks:=tk}:=I.kept λb o e=>tu _ e
 refine⟨(s.heap.push {cls:=.type "range",data:=.fields #[.int lo t,.int hi u,.int 1 v] }).objs.size,[(s.heap.push {cls:=.type "range",data:=.fields #[.int lo t,.int hi u,.int 1 v] }).objs.size],_,_,H,rfl,
  I1.kept (t':=tk) λb o e=>tu _ e,uw _ lo (hi-lo).toNat,?_,λb hb=>?_,q⟩
 .
  have e1:lo+((0:Nat):Int)*1=lo:=by simp
  have e2:(((hi-lo).toNat:Nat):Int)-((0:Nat):Int)=Builtin.Range.rangeSize lo hi 1:=by rw[rangeSize_one];split<;>omega
  show IsRangeIter _ _ (lo+((0:Nat):Int)*1) ((((hi-lo).toNat:Nat):Int)-((0:Nat):Int)) 1;rw[e1,e2];exact M4 _ rfl
 .
  have e:b=(s.heap.push {cls:=.type "range",data:=.fields #[.int lo t,.int hi u,.int 1 v] }).objs.size:=by simpa using hb
  subst e;exact I1.fpOk (ME _) (I1.hok.fresh (ME _))
noncomputable def FO(ta:TA):TI:=λσ H R=>ta σ H λvs H1=>∃j:Int,vs=[.int j]/\-(2^62)<=j/\j<2^62/\R (Jb 0 j.toNat) H1
noncomputable def FP(ta:TA):TI:=λσ H R=>ta σ H λvs H1=>∃i j:Int,vs=[.int i,.int j]/\(-(2^62)<=i/\i<2^62/\-(2^62)<=j/\j<2^62)/\R (Jb i (j-i).toNat) H1
theorem vD{a:Expr}{ta:TA}{p pos:Pos} (hg:Gl X "range") (hm:X.mg "range"=none) (ha:PA X [a] ta) (hs:starEach [a] X.env=[(false,eval a X.env)]:=by rfl):PI X tg (.Call (.Name "range" p) [a] [] pos) (FO ta):=by
 intro gV s σ H R I h;refine Call_ (k9 I hg hm boot_range (N1 (IT (ha pos gV s σ H _ I h) λus s1 ⟨vs,H1,I1,r1,q1⟩=>?_) hs rfl));obtain⟨j,e,q1,q2,q⟩:=q1;subst e
 cases r1 with
 | cons r rr =>
  cases rr;obtain⟨t,rfl⟩:=r;exact call_range_1 (sS I1 xL xL q1 q2 (by simpa using q))
theorem vE{a b:Expr}{ta:TA}{p pos:Pos} (hg:Gl X "range") (hm:X.mg "range"=none) (ha:PA X [a,b] ta) (hs:starEach [a,b] X.env=[(false,eval a X.env),(false,eval b X.env)]:=by rfl) (hs2:starEach [b] X.env=[(false,eval b X.env)]:=by rfl) :
  PI X tg (.Call (.Name "range" p) [a,b] [] pos) (FP ta):=by
 intro gV s σ H R I h;refine Call_ (k9 I hg hm boot_range (N1 (IT (ha pos gV s σ H _ I h) λus s1 ⟨vs,H1,I1,r1,q1⟩=>?_) (by rw[hs,hs2]) (by rw[hs2];rfl)));obtain⟨i,j,e,⟨q1,q2,q3,q4⟩,q⟩:=q1;subst e
 cases r1 with
 | cons r rr =>
  cases rr with
  | cons r' rr =>
   cases rr;obtain⟨t,rfl⟩:=r;obtain⟨t',rfl⟩:=r';exact call_range_2 (sS I1 q1 q2 q3 q4 q)
noncomputable def pF(fp:List Addr)(h:Heap):List (Addr×Obj):=fp.filterMap λb=>(h.get? b).map λo=>(b,o)
theorem iC{fp:List Addr}{h:Heap}{b:Addr}{o:Obj}(hb:b∈fp)(e:h.get? b=some o):(b,o)∈pF fp h:=List.mem_filterMap.mpr ⟨b,hb,by rw[e];rfl⟩
theorem vF{fp:List Addr}{h:Heap}{p:Addr×Obj}(hp:p∈pF fp h):p.1∈fp/\h.get? p.1=some p.2:=by
 obtain⟨b,hb,e⟩:=List.mem_filterMap.mp hp
 cases q:h.get? b with
 |none=>rw[q]at e;cases e
 | some o =>
  rw[q]at e;have e':(b,o)=p:=MZ e;subst e';exact⟨hb,q⟩
theorem IR.pinned{gV:List (Addr×Obj)}{σ:St}{H:Hp}{s:Shared}{fp:List Addr}(I:IR X gV σ H s)(hf:∀b∈fp,yh X gV H b)(ho:∀b∈fp,∃o,s.heap.get? b=some o/\∀v,o.data≠.cell v):IR X (gV++pF fp s.heap) σ H s :=
 I.pins_of λp hp=>(ML.mp hp).elim (λz=>I.pin p (MM _ z)) λz=>by obtain⟨hb,e⟩:=vF z;obtain⟨f0,f1,f2,_⟩:=hf p.1 hb;obtain⟨o,e',d⟩:=ho p.1 hb;rw[e]at e';cases e';exact⟨e,f0,f1,f2,d⟩
theorem IR.unpinned{gV pl:List (Addr×Obj)}{σ:St}{H:Hp}{s:Shared}(I:IR X (gV++pl) σ H s):IR X gV σ H s:=I.pins_of λp hp=>I.pin p (MM _ (MJ _ hp))
end
abbrev R2:=V->V->Hp->VK->Prop
def Jc(X:Cx)(f:Value->Value->Sem Value)(r:R2):Prop :=
 ∀(gV:List (Addr×Obj))(s:Shared)(σ:St)(H:Hp)(x y:V)(v u:Value)(Q:VK),IR X gV σ H s->bF x v->bF y u->r x y H Q ->
  wpAny (model X.prog X.w) X.A (f v u) (EP X gV σ Q) X.xe s
def Jd(X:Cx)(f:Value->Sem Value)(r:V->Hp->VK->Prop):Prop :=
 ∀(gV:List (Addr×Obj))(s:Shared)(σ:St)(H:Hp)(x:V)(v:Value)(Q:VK),IR X gV σ H s->bF x v->r x H Q ->
  wpAny (model X.prog X.w) X.A (f v) (EP X gV σ Q) X.xe s
def gY(X:Cx)(f:Value)(r:List V->Hp->VK->Prop):Prop :=
 ∀(gV:List (Addr×Obj))(s:Shared)(σ:St)(H:Hp)(xs:List V)(us:List Value)(Q:VK),IR X gV σ H s->bL xs us->r xs H Q ->
  wpAny (model X.prog X.w) X.A (call f us) (EP X gV σ Q) X.xe s
def Je(r:R2)(ta tb:TE):TE:=λσ H Q=>ta σ H λx H1=>tb σ H1 λy H2=>r x y H2 Q
def rI(C:Int->Int->Prop)(g:Int->Int->V):R2:=λx y H Q=>∃i j,x=.int i/\y=.int j/\C i j/\Q (g i j) H
def Jf(g:Int->Int->V):R2:=λx y H Q=>∃i j,x=.int i/\y=.int j/\Q (g i j) H
def rU(g:Int->V):V->Hp->VK->Prop:=λx H Q=>∃i,x=.int i/\Q (g i) H
section
variable{X:Cx}{a b:Expr}{ta tb:TE}
theorem HL(ha:PE X a ta)(hb:PE X b tb){gV:List (Addr×Obj)}{s:Shared}{σ:St}{H:Hp}{R:V->V->Hp->Prop}(I:IR X gV σ H s)
  (h:ta σ H λx H1=>tb σ H1 λy H2=>R x y H2) {Q:Value->Shared->Prop} {f:Value->Value->Sem Value}
  (hf:∀v u s2 x y H2,IR X gV σ H2 s2->bF x v->bF y u->R x y H2->wpAny (model X.prog X.w) X.A (f v u) Q X.xe s2) :
  wpAny (model X.prog X.w) X.A (eval a X.env) (λv s₁=>wpAny (model X.prog X.w) X.A (eval b X.env) (λu s₂=>wpAny (model X.prog X.w) X.A (f v u) Q X.xe s₂) X.xe s₁) X.xe s:=by
 refine IT (ha gV s σ H _ I h) λv s1 ⟨x,H1,I1,r1,q1⟩=>?_;refine IT (hb gV s1 σ H1 _ I1 q1) λu s2 ⟨y,H2,I2,r2,q2⟩=>?_;exact hf v u s2 x y H2 I2 r1 r2 q2
theorem Jg{f:Value->Value->Sem Value}{C:Int->Int->Prop}{g:Int->Int->Int}
  (rule:∀(i j:Int)(t u:Tok)(s:Shared)(Q:Value->Shared->Prop)(E:Value->Shared->Prop),C i j->Q (.int (g i j) s.toks) {s with toks:=s.toks+1}->wpAny (model X.prog X.w) X.A (f (.int i t) (.int j u)) Q E s) :
  Jc X f (rI C λi j=>.int (g i j)):=by
 intro gV s σ H x y v u Q I rx ry h;obtain⟨i,j,rfl,rfl,hc,q⟩:=h;obtain⟨t,rfl⟩:=rx;obtain⟨t',rfl⟩:=ry;exact rule i j t t' s _ _ hc ⟨.int (g i j),H,I.tok _,⟨_,rfl⟩,q⟩
theorem G7{f:Value->Value->Sem Value}{g:Int->Int->Int}
  (rule:∀(i j:Int)(t u:Tok)(s:Shared)(Q:Value->Shared->Prop)(E:Value->Shared->Prop),Q (.int (g i j) s.toks) {s with toks:=s.toks+1}->wpAny (model X.prog X.w) X.A (f (.int i t) (.int j u)) Q E s) :
  Jc X f (Jf λi j=>.int (g i j)):=by
 intro gV s σ H x y v u Q I rx ry h;obtain⟨i,j,rfl,rfl,q⟩:=h;obtain⟨t,rfl⟩:=rx;obtain⟨t',rfl⟩:=ry;exact rule i j t t' s _ _ ⟨.int (g i j),H,I.tok _,⟨_,rfl⟩,q⟩
theorem Fx{f:Value->Value->Sem Value}{g:Int->Int->Bool}
  (rule:∀(i j:Int)(t u:Tok)(s:Shared)(Q:Value->Shared->Prop)(E:Value->Shared->Prop),Q (.bool (g i j)) s->wpAny (model X.prog X.w) X.A (f (.int i t) (.int j u)) Q E s) :
  Jc X f (Jf λi j=>.bl (g i j)):=by
 intro gV s σ H x y v u Q I rx ry h;obtain⟨i,j,rfl,rfl,q⟩:=h;obtain⟨t,rfl⟩:=rx;obtain⟨t',rfl⟩:=ry;exact rule i j t t' s _ _ ⟨.bl (g i j),H,I,rfl,q⟩
def HM(i j:Int):Prop:=0<=j/\j<=1000000/\i.natAbs<2^64
def G8(i j:Int):Prop:=(-(2^64)<i/\i<2^64)∨(-(2^64)<j/\j<2^64)
theorem G8.ok{i j:Int}(h:G8 i j):IntMulOk i j:=by
 rcases h with⟨h1,h2⟩|⟨h1,h2⟩
 . exact .of_left (intBits_le_64 h1 h2)
 . exact .of_right (intBits_le_64 h1 h2)
theorem Dh:Jc X (binaryOp .Add) (Jf λi j=>.int (i+j)):=G7 λ_ _ _ _ _ _ _ q=>add_int q
theorem Di:Jc X (binaryOp .Sub) (Jf λi j=>.int (i-j)):=G7 λ_ _ _ _ _ _ _ q=>sub_int q
theorem AQ:Jc X (binaryOp .Mod) (rI (λ_ j=>j≠0) λi j=>.int (i.fmod j)):=Jg λ_ _ _ _ _ _ _ hc q=>mod_int' hc q
theorem Dj:Jc X (binaryOp .Pow) (rI HM λi j=>.int (i^j.toNat)):=Jg λ_ _ _ _ _ _ _ hc q=>pow_int_small hc.1 hc.2.1 hc.2.2 q
theorem Jh{f:Value->Sem Value}{g:Int->Int}
  (rule:∀(i:Int)(t:Tok)(s:Shared)(Q:Value->Shared->Prop)(E:Value->Shared->Prop),Q (.int (g i) s.toks) {s with toks:=s.toks+1}->wpAny (model X.prog X.w) X.A (f (.int i t)) Q E s) :
  Jd X f (rU λi=>.int (g i)):=by
 intro gV s σ H x v Q I rx h;obtain⟨i,rfl,q⟩:=h;obtain⟨t,rfl⟩:=rx;exact rule i t s _ _ ⟨.int (g i),H,I.tok _,⟨_,rfl⟩,q⟩
theorem Dk:Jd X (unaryOp .USub) (rU λi=>.int (-i)):=Jh λ_ _ _ _ _ q=>neg_int q
end
noncomputable def HN:V->V->Bool
 |.non,.non=>true | .non,.int _=>true | .int _,.non=>true | .non,.bl _=>true | .bl _,.non=>true | .non,.str _=>true | .str _,.non=>true
 |.int _,.int _=>true | .bl _,.bl _=>true | .str _,.str _=>true | .byt _,.byt _=>true
 |.int _,.str _=>true | .str _,.int _=>true | .bl _,.str _=>true | .str _,.bl _=>true
 |_,_=>false
def Ji:R2:=λx y H Q=>HN x y=true/\Q (.bl (!decide (x=y))) H
theorem AR{i j:Int}:decide (V.int i=V.int j)=(i == j):=by rw[Bool.eq_iff_iff];simp
theorem Dl{i j:Bool}:decide (V.bl i=V.bl j)=(i == j):=by rw[Bool.eq_iff_iff];simp
theorem AS{i j:Str}:decide (V.str i=V.str j)=(i == j):=by rw[Bool.eq_iff_iff];simp
theorem AU{i j:Array UInt8}:decide (V.byt i=V.byt j)=(i.toList == j.toList):=by rw[Bool.eq_iff_iff];cases i;cases j;simp
section
variable{X:Cx}{a b c:Expr}{ta tb tc:TE}{pos:Pos}
theorem dQ{gV:List (Addr×Obj)}{σ:St}{H:Hp}{s:Shared}{Q:VK}{k k':Bool}(I:IR X gV σ H s)(q:Q (.bl k) H)(e:k=k'):EP X gV σ Q (.bool k') s:=by subst e;exact⟨.bl k,H,I,rfl,q⟩
theorem FQ:Jc X (compareOp .NotEq) Ji:=by
 intro gV s σ H x y v u Q I rx ry h;obtain⟨hs,q⟩:=h
 cases x with
 | non =>
  cases rx
  cases y with
  |non=>cases ry;exact PySem.EqNone.ne_none_none (dQ I q v6)
  |bl j=>cases ry;exact PySem.EqNone.ne_none_bool (dQ I q v6)
  |int j=>obtain⟨t',rfl⟩:=ry;exact PySem.EqNone.ne_none_int (dQ I q v6)
  |str j=>obtain⟨t',rfl⟩:=ry;exact PySem.EqNone.ne_none_str (dQ I q v6)
  |_=>exact absurd (show false=true from hs) M6
 | bl i =>
  cases rx
  cases y with
  |non=>cases ry;exact PySem.EqNone.ne_bool_none (dQ I q v6)
  |bl j=>cases ry;exact ne_bool (dQ I q (Os not Dl))
  |str j=>obtain⟨t',rfl⟩:=ry;exact PySem.EqMixed.ne_bool_str (dQ I q v6)
  |_=>exact absurd (show false=true from hs) M6
 | int i =>
  obtain⟨t,rfl⟩:=rx
  cases y with
  |non=>cases ry;exact PySem.EqNone.ne_int_none (dQ I q v6)
  |int j=>obtain⟨t',rfl⟩:=ry;exact ne_int (dQ I q (Os not AR))
  |str j=>obtain⟨t',rfl⟩:=ry;exact PySem.EqMixed.ne_int_str (dQ I q v6)
  |_=>exact absurd (show false=true from hs) M6
 | str i =>
  obtain⟨t,rfl⟩:=rx
  cases y with
  |non=>cases ry;exact PySem.EqNone.ne_str_none (dQ I q v6)
  |bl j=>cases ry;exact PySem.EqMixed.ne_str_bool (dQ I q v6)
  |int j=>obtain⟨t',rfl⟩:=ry;exact PySem.EqMixed.ne_str_int (dQ I q v6)
  |str j=>obtain⟨t',rfl⟩:=ry;exact ne_str (dQ I q (Os not AS))
  |_=>exact absurd (show false=true from hs) M6
 | byt i =>
  obtain⟨t,rfl⟩:=rx
  cases y with
  |byt j=>obtain⟨t',rfl⟩:=ry;exact PySem.W.ne_bytes (dQ I q (Os not AU))
  |_=>exact absurd (show false=true from hs) M6
 |_=>cases y<;>exact absurd (show false=true from hs) M6
theorem Dm:Jc X (compareOp .Lt) (Jf λi j=>.bl (decide (i<j))):=Fx λ_ _ _ _ _ _ _ q=>lt_int q
theorem Dn:Jc X (compareOp .LtE) (Jf λi j=>.bl (decide (i<=j))):=Fx λ_ _ _ _ _ _ _ q=>le_int q
theorem FR:Jc X (compareOp .Gt) (Jf λi j=>.bl (decide (j<i))):=Fx λ_ _ _ _ _ _ _ q=>gt_int q
theorem FT:Jc X (compareOp .GtE) (Jf λi j=>.bl (decide (j<=i))):=Fx λ_ _ _ _ _ _ _ q=>ge_int q
theorem Do:Jc X (compareOp .Is) (λx y H Q=>y=.non/\Q (.bl (decide (x=.non))) H):=by
 intro gV s σ H x y v u Q I rx ry h;obtain⟨rfl,q⟩:=h;cases ry;refine is_none_gen (dQ I q ?_)
 cases x<;>first
  |(cases rx;rfl)
  |(obtain⟨t,rfl⟩:=rx;rfl)
theorem aU(b:Expr){op:CmpOp}(h:op≠.In:=by decide)(h2:op≠.NotIn:=by decide):behindInMarks op b=false:=by
 have e1:(op == CmpOp.In)=false:=by cases op<;>first|rfl|exact absurd rfl h
 have e2:(op == CmpOp.NotIn)=false:=by cases op<;>first|rfl|exact absurd rfl h2
 cases b<;>simp[behindInMarks,e1,e2]
noncomputable def Dp(t:TE):TT:=λσ H Q=>t σ H λx H'=>∃k,x=.bl k/\Q k H'
theorem FU{op:CmpOp}{r:R2}(ho:Jc X (compareOp op) r)(ha:PE X a ta)(hb:PE X b tb)(hm:behindInMarks op b=false):PT X (.Compare a [op] [b] pos) (Dp (Je r ta tb)):=by
 intro gV s σ H Q I h
 refine wpAny_isTrue_Compare1 (IT (ha gV s σ H _ I h) λv s1 ⟨x,H1,I1,r1,q1⟩=>IT (hb gV s1 σ H1 _ I1 q1) λu s2 ⟨y,H2,I2,r2,q2⟩ =>
  IT (ho gV s2 σ H2 x y v u _ I2 r1 r2 q2) λc s3 ⟨z,H3,I3,r3,k,e,q3⟩=>?_) hm
 subst e;cases r3;exact Na ⟨H3,I3,q3⟩
def vG(r r':R2)(ta tb tc:TE):TE:=λσ H Q=>ta σ H λx H1=>tb σ H1 λy H2=>r x y H2 λz H3=>∃k,z=.bl k /\
 (if k=true then tc σ H3 λw' H4=>r' y w' H4 Q else Q (.bl false) H3)
theorem yr{op op':CmpOp}{r r':R2}(ho:Jc X (compareOp op) r)(ho':Jc X (compareOp op') r')(ha:PE X a ta)(hb:PE X b tb)(hc:PE X c tc)
  (hm:lastMarks [op,op'] [b,c]=false:=by with_unfolding_all rfl):PE X (.Compare a [op,op'] [b,c] pos) (vG r r' ta tb tc):=by
 intro gV s σ H Q I h
 refine Compare_chain (IT (ha gV s σ H _ I h) λv s1 ⟨x,H1,I1,r1,q1⟩=>chain_link (IT (hb gV s1 σ H1 _ I1 q1) λu s2 ⟨y,H2,I2,r2,q2⟩ =>
  IT (ho gV s2 σ H2 x y v u _ I2 r1 r2 q2) λd s3 ⟨z,H3,I3,r3,k,e,q3⟩=>?_)) hm
 subst e;cases r3;refine Na ?_
 cases k with
 |false=>exact ite_ff ⟨.bl false,H3,I3,rfl,q3⟩
 |true=>exact ite_tt (chain_last (IT (hc gV s3 σ H3 _ I3 q3) λw' s4 ⟨z',H4,I4,r4,q4⟩=>ho' gV s4 σ H4 y z' u w' Q I4 r2 r4 q4))
theorem yt{op op':CmpOp}{r r':R2}(ho:Jc X (compareOp op) r)(ho':Jc X (compareOp op') r')(ha:PE X a ta)(hb:PE X b tb)(hc:PE X c tc)
  (hm:lastMarks [op,op'] [b,c]=false:=by with_unfolding_all rfl):PT X (.Compare a [op,op'] [b,c] pos) (Dp (vG r r' ta tb tc)):=by
 intro gV s σ H Q I h
 refine isTrue_chain (IT (ha gV s σ H _ I h) λv s1 ⟨x,H1,I1,r1,q1⟩=>test_link (IT (hb gV s1 σ H1 _ I1 q1) λu s2 ⟨y,H2,I2,r2,q2⟩ =>
  IT (ho gV s2 σ H2 x y v u _ I2 r1 r2 q2) λd s3 ⟨z,H3,I3,r3,k,e,q3⟩=>?_)) hm
 subst e;cases r3;refine Na ?_
 cases k with
 | false =>
  obtain⟨k',e',q'⟩:=q3;cases e';exact ite_ff ⟨H3,I3,q'⟩
 | true =>
  refine ite_tt (test_last (IT (hc gV s3 σ H3 _ I3 q3) λw' s4 ⟨z',H4,I4,r4,q4⟩=>IT (ho' gV s4 σ H4 y z' u w' _ I4 r2 r4 q4) λd' s5 ⟨z2,H5,I5,r5,k2,e2,q5⟩=>?_));subst e2;cases r5;exact Na ⟨H5,I5,q5⟩
theorem nJ:(sizeLine:Nat)<2^63:=by rw[sizeLine_eq];decide
theorem uy:Jc X (binaryOp .Add) (λx y H Q=>∃i j,x=.str i/\y=.str j/\i.length+j.length<=sizeLine/\Q (.str (i++j)) H):=by intro gV s σ H x y v u Q I rx ry h;obtain⟨i,j,rfl,rfl,hz,q⟩:=h;obtain⟨t,rfl⟩:=rx;obtain⟨t',rfl⟩:=ry;exact add_str (λt' tk=>⟨.str (i++j),H,I.tok _,⟨_,rfl⟩,q⟩) hz
theorem oA{x:V}{us:List Value}(r:bL [x] us):∃u,us=[u]/\bF x u:=by
 cases r with
 |cons r1 r2=>cases r2;exact⟨_,rfl,r1⟩
theorem uz{x y:V}{us:List Value}(r:bL [x,y] us):∃u w',us=[u,w']/\bF x u/\bF y w':=by
 cases r with
 | cons r1 r2 =>
  cases r2 with
  |cons r3 r4=>cases r4;exact⟨_,_,rfl,r1,r3⟩
theorem yu:gY X (.builtin "abs") (λxs H Q=>∃ i,xs=[.int i]/\Q (.int (if i < 0 then -i else i)) H):=by
 intro gV s σ H xs us Q I r h;obtain⟨i,rfl,q⟩:=h;obtain⟨u,rfl,t,rfl⟩:=oA r
 exact call_abs_int λu tk=>⟨.int (if i<0 then -i else i),H,I.tok _,⟨_,rfl⟩,q⟩
theorem vH(hc:X.calm=true):gY X (.builtin "max") (λxs H Q=>∃ i j,xs=[.int i,.int j]/\Q (.int (if j > i then j else i)) H):=by
 intro gV s σ H xs us Q I r h;obtain⟨i,j,rfl,q⟩:=h;obtain⟨u,w',rfl,⟨t,rfl⟩,⟨t',rfl⟩⟩:=uz r;refine max_two_ints (I.ok.hd hc) λh' tk k=>⟨_,H,I.kept k,?_,q⟩;by_cases hj:j > i
 . rw[if_pos hj,if_pos hj];exact⟨_,rfl⟩
 . rw[if_neg hj,if_neg hj];exact⟨_,rfl⟩
theorem vI(hc:X.calm=true):gY X (.builtin "min") (λxs H Q=>∃ i j,xs=[.int i,.int j]/\Q (.int (if j < i then j else i)) H):=by
 intro gV s σ H xs us Q I r h;obtain⟨i,j,rfl,q⟩:=h;obtain⟨u,w',rfl,⟨t,rfl⟩,⟨t',rfl⟩⟩:=uz r;refine min_two_ints (I.ok.hd hc) λh' tk k=>⟨_,H,I.kept k,?_,q⟩;by_cases hj:j<i
 . rw[if_pos hj,if_pos hj];exact⟨_,rfl⟩
 . rw[if_neg hj,if_neg hj];exact⟨_,rfl⟩
theorem vJ:gY X (.type "int") (λxs H Q=>(∃ i,xs=[.int i]/\Q (.int i) H)∨∃ k,xs=[.bl k]/\Q (.int (if k then 1 else 0)) H):=by
 intro gV s σ H xs us Q I r h;rcases h with⟨i,rfl,q⟩|⟨k,rfl,q⟩
 . obtain⟨u,rfl,t,rfl⟩:=oA r;exact call_int_int ⟨.int i,H,I,⟨_,rfl⟩,q⟩
 .
  obtain⟨u,rfl,r1⟩:=oA r;cases r1
  exact call_int_bool ⟨.int (if k then 1 else 0),H,I.tok _,⟨_,rfl⟩,q⟩
end
theorem vK{h:Heap}{dx:Addr}{mA:Str->Option Value}(n:h.Ns1 dx mA):∃od,h.get? dx=some od/\∀name,PySem.W.lookIn name od=some (mA name):=by
 obtain⟨o,es,ep,ho,hd,hk,_,hm⟩:=n;refine⟨o,ho,λname=>?_⟩;have e:=hm name;unfold nsFind findBy at e;rw[<- Array.find?_toList]at e;unfold PySem.W.lookIn;rw[hd];dsimp only;split
 . rename_i y q;rw[q]at e;exact Os some e
 .
  rename_i q;rw[q]at e;have a:es.toList.any (·.refKey)=false:=by rw[List.any_eq_false];intro y hy;obtain⟨z,t,hkey⟩:=hk y (Array.mem_toList_iff.mp hy);simp[DictEntry.refKey,hkey]
  have a':¬es.toList.any (·.refKey)=true:=by rw[a];exact M6
  rw[if_neg a'];exact Os some e
theorem qY.some_of{v:V}{o:Option Value}(r:qY (some v) o):∃u,o=some u/\bF v u:=by
 cases o with
 |none=>exact(show False from r).elim
 |some u=>exact⟨u,rfl,r⟩
section
variable{s:Shared}{f:Str}{A:Around}{E:Value->Shared->Prop}
theorem AV{prog:Program}{w:World}{env:Env}{e:Expr}{f:Str}{pos:Pos}{s:Shared}{Q:Value->Shared->Prop}(hb:attributeBase e f env (eval e env)=eval e env)
  (h:wpAny (model prog w) A (eval e env) (λo s₁=>wpAny (model prog w) A (getAttr o f true) Q E s₁) E s):wpAny (model prog w) A (eval (.Attribute e f pos) env) Q E s :=
 Attribute_any_ h (by rw[arm_eval_Attribute,hb])
end
structure fw (k:Nat) (A:Around):Prop where
 hd:A.handled=none
 dp:A.depth+3*k+5<recursionLimit
 un:A.units+16*k+200<cLine
 gd:A.guards=some []
theorem fw.mono{j k:Nat}{A:Around}(r:fw k A)(h:j<=k):fw j A:=⟨r.hd,by have:=r.dp;omega,by have:=r.un;omega,r.gd⟩
theorem fw.deeper{k:Nat}{A:Around}(r:fw (k+1) A)(env:Env):fw k (A.deeper env) :=
 ⟨r.hd,by have:=r.dp;show A.depth+1+3*k+5<_;omega,by have:=r.un;show A.units+3+16*k+200<_;omega,r.gd⟩
theorem uA{A:Around}{C:Addr}{us:List Value}{kw:List (Str×Value)}:(A.under (.builtin "type.__call__" ⟨.ref C::us,kw⟩)).depth=A.depth+1:=by
 first|rfl|simp[Around.under,Code.weight,Code.isCreation,Code.isGuard,Code.isCaller,Code.frames,Code.isFrame,guardIds]
theorem uB{A:Around}{C:Addr}{us:List Value}{kw:List (Str×Value)}:(A.under (.builtin "type.__call__" ⟨.ref C::us,kw⟩)).units=A.units+1:=by
 first|rfl|simp[Around.under,Code.cUnits,Code.frames,Code.isFrame]
theorem fw.make{k:Nat}{A:Around}(r:fw (k+1) A)(C:Addr)(us:List Value)(kw:List (Str×Value)):fw k (A.under (.builtin "type.__call__" ⟨.ref C::us,kw⟩)) :=
 ⟨r.hd,by have:=r.dp;rw[uA];omega,by have:=r.un;rw[uB];omega,by rw[<- r.gd];first|rfl|simp[Around.under,Code.guards,Code.isGuard,pushGuards,guardIds]⟩
theorem fw.depth{k:Nat}{A:Around}(r:fw k A):A.depth<recursionLimit:=by have:=r.dp;omega
theorem fw.units{k:Nat}{A:Around}(r:fw k A):A.units+64<cLine:=by have:=r.un;omega
noncomputable def FV:TA:=λ_ H Q=>Q [] H
noncomputable def vL(ta:TE)(tr:TA):TA:=λσ H Q=>ta σ H λx H1=>tr σ H1 λxs H2=>Q (x::xs) H2
section
variable{X:Cx}{e:Expr}{es:List Expr}{te:TE}{t:TA}{pos:Pos}
theorem fx:PA X [] FV:=λ_ _ _ _ H Q I h=>Calls.spliced_nil ⟨[],H,I,.nil,h⟩
theorem br(ha:PE X e te)(hr:PA X es t)(hs:starEach (e::es) X.env=(false,eval e X.env)::starEach es X.env:=by rfl):PA X (e::es) (vL te t):=by intro pos gV s σ H Q I h;rw[hs];show wpAny _ _ (spliced ((false,eval e X.env)::backTo pos (starEach es X.env))) _ _ s;refine N5 (IT (ha gV s σ H _ I h) λu s1 ⟨x,H1,I1,r1,q1⟩=>?_);exact IT (hr pos gV s1 σ H1 _ I1 q1) λus s2 ⟨xs,H2,I2,r2,q2⟩=>⟨x::xs,H2,I2,.cons r1 r2,q2⟩
def HP(t:TA):TE:=λσ H Q=>t σ H λxs H1=>xs.length<=sizeLine/\∀p,H1 p=none->Q (.ref p) (IH H1 p (.tup xs))
theorem Dq {x1} (h:PA X es t):PE X (.Tuple es x1 pos) (HP t):=by intro gV s σ H Q I hq;refine wpAny_Tuple_spliced (IT (h pos gV s σ H _ I hq) λus s1 ⟨xs,H1,I1,r,z,q⟩=>⟨by rw[<- r.length];exact z,?_⟩);have hf:H1 s1.heap.objs.size=none:=I1.hok.fresh (ME _);refine⟨.ref s1.heap.objs.size,IH H1 s1.heap.objs.size (.tup xs),I1.laid (t':=s1.toks) (λb u e=>tu _ e) (ME _) ?_,rfl,q _ hf⟩;exact⟨z,us,r,⟨_,M4 _ rfl,rfl,_,rfl⟩⟩
end
noncomputable abbrev Sp:=List V->Hp->VK->XK->Prop
noncomputable abbrev Jj:=List Env->Hp->Shared->XK->Value->Shared->Prop
structure vM (P:Program) (w:World) (K:PySem.W.Frag) (mg:Str->Option Value) (base:Heap) (A:Around) (outer:List Env) (s:Shared) (H:Hp):Prop where
 frames:A.frames=some outer
 mod:Mod K mg base
 bs:∀b o,base.get? b=some o->s.heap.get? b=some o/\H b=none
 bsz:base.objs.size<=s.heap.objs.size
 funs:s.heap.FunFrames base outer
 frf:∀b∈IM outer,H b=none
 hok:II P w H s.heap
 bare:AllBare s.gens
 tbs:IL K H
def CE(outer:List Env)(P:Program)(w:World)(H:Hp)(s:Shared)(Q:VK)(u:Value)(s':Shared):Prop :=
 ∃v H',s'.os=s.os/\AllBare s'.gens/\Un (IM outer) [] H H' s.heap s'.heap/\II P w H' s'.heap/\bF v u/\Q v H'
def CR(CX:Jj)(outer:List Env)(P:Program)(w:World)(H:Hp)(s:Shared)(Q:VK)(E:XK)(r:Result)(s':Shared):Prop :=
 match r with
 |.ok (.ret u)=>CE outer P w H s Q u s'
 |.ok _=>False
 |.error e=>CX outer H s E e s'
structure FnOk (P:Program) (w:World) (K:PySem.W.Frag) (mg:Str->Option Value) (base:Heap) (CX:Jj) (k:Nat) (f:Addr) (fd:FuncData) (ps:List Str) (sp:Sp):Prop where
 len:∀vs H Q E,sp vs H Q E->vs.length=ps.length
 run:∀(A:Around)(outer:List Env)(s:Shared)(H:Hp)(args:Args)(us:List Value)(vs:List V)(Q:VK)(E:XK),fw k A->vM P w K mg base A outer s H->BindsTo s fd args (ps.zip us)->bL vs us->sp vs H Q E ->
  codeAny (model P w) A (.call (.ref f) args) (CR CX outer P w H s Q E) s
theorem FnOk.mono{P:Program}{w:World}{K:PySem.W.Frag}{mg:Str->Option Value}{base:Heap}{CX:Jj}{j k:Nat}{f:Addr}{fd:FuncData}{ps:List Str}{sp:Sp}(F:FnOk P w K mg base CX j f fd ps sp)(h:j<=k) :
  FnOk P w K mg base CX k f fd ps sp:=⟨F.len,λA outer s H args us vs Q E hr=>F.run A outer s H args us vs Q E (hr.mono h)⟩
theorem vM.make{P:Program}{w:World}{K:PySem.W.Frag}{mg:Str->Option Value}{base:Heap}{A:Around}{outer:List Env}{s:Shared}{H:Hp}(e:vM P w K mg base A outer s H)(C:Addr)(us:List Value)(kw:List (Str×Value)) :
  vM P w K mg base (A.under (.builtin "type.__call__" ⟨.ref C::us,kw⟩)) outer s H:=⟨by first | exact e.frames | (simpa[Around.under,Code.envs,Code.isFrame,pushEnvs]using e.frames),e.mod,e.bs,e.bsz,e.funs,e.frf,e.hok,e.bare,e.tbs⟩
section
variable{X:Cx}{gV:List (Addr×Obj)}{σ:St}{H:Hp}{s s':Shared}
theorem IR.env0(I:IR X gV σ H s):vM X.prog X.w X.K X.mg X.base X.A X.stack s H :=
 ⟨I.ok.frames,I.ok.mod,I.bs,MH I.ok.bsz I.sz,I.stack,I.stkFree,I.hok,I.bare,I.tbs⟩
theorem IR.after{Q:VK}{u:Value}(I:IR X gV σ H s)(h:CE X.stack X.prog X.w H s Q u s'):EP X gV σ Q u s':=by obtain⟨v,H',os,bare,un,hok,r,q⟩:=h;obtain⟨hh,g,d,t,os'⟩:=s';obtain rfl:os'=s.os:=os;exact⟨v,H',I.call (h':=hh) (g':=g) (d':=d) (t':=t) (ch:=[]) un hok bare (λb z=>absurd z v6),r,q⟩
end
def jE(K:PySem.W.Frag)(fd:FuncData)(ps:List Str)(ds:List Value):Prop :=
 ∀(s:Shared)(us:List Value),K.In s.heap->(us++ds).length=ps.length->BindsTo s fd ⟨us,[]⟩ (ps.zip (us++ds))
theorem jE.all{K:PySem.W.Frag}{fd:FuncData}{ps:List Str}(h:∀us:List Value,us.length=ps.length->bindArgs fd ⟨us,[]⟩=pure (ps.zip us)):jE K fd ps []:=λs us _ hl=>by rw[M9]at hl ⊢;exact .of_eq (h us hl)
def sT(CX:Jj)(X:Cx)(E:XK):Prop:=∀(gV:List (Addr×Obj))(σ:St)(H:Hp)(s:Shared)(e:Value)(s':Shared),IR X gV σ H s->CX X.stack H s E e s'->X.xe e s'
section
variable{X:Cx}{CX:Jj}{k:Nat}{f:Addr}{fd:FuncData}{ps:List Str}{sp:Sp}{dvs:List V}{ds:List Value}{E:XK}{e:Expr}
theorem vN{gV:List (Addr×Obj)}{σ:St}{H:Hp}{s:Shared}{Q:VK}{us:List Value}{vs:List V}(F:FnOk X.prog X.w X.K X.mg X.base CX k f fd ps sp)(hr:fw k X.A)(hb:jE X.K fd ps ds)(hd:bL dvs ds)(hx:sT CX X E)
  (I:IR X gV σ H s) (r:bL vs us) (h:sp (vs++dvs) H Q E):wpAny (model X.prog X.w) X.A (call (.ref f) us) (EP X gV σ Q) X.xe s:=by
 have r2:bL (vs++dvs) (us++ds):=r.append hd;have hl:(us++ds).length=ps.length:=by rw[<- r2.length];exact F.len _ _ _ _ h
 refine Om (codeAny_mono (F.run X.A X.stack s H ⟨us,[]⟩ (us++ds) (vs++dvs) Q E hr I.env0 (hb s us I.kIn hl) r2 h) λr s' hq=>?_)
 cases r with
 |error e=>exact hx gV σ H s e s' I hq
 | ok fl =>
  cases fl with
  |ret u=>exact I.after hq
  |next=>exact False.elim hq
  |brk=>exact False.elim hq
  |cont=>exact False.elim hq
end
structure aO (N P:List Str) (sc:Scope):Prop where
 kind:sc.kind=.function
 co:sc.isCoroutine=false
 gen:sc.isGenerator=false
 nd:N.Nodup
 pre:N.take P.length=P
 par:∀x∈P,sc.names.lookup x=some .local∨sc.names.lookup x=some .cell
 nofree:∀y∈sc.names,y.2≠.free
theorem pG{kindOf:Str->Option NameKind}{x:Str}:∀{binds:List (Str×Value)}{m:Str->Option Value},(∀v,(x,v)∉binds)->bindL kindOf binds m x=m x
 |[],_,_=>rfl
 | (n,v)::r,m,h=>by
  unfold bindL;rw[pG λw hw=>h w (so _ hw)];split
  .
   have:x≠n:=by rintro rfl;exact h v Mw
   simp[this]
  . rfl
theorem pH{kindOf:Str->Option NameKind}{x:Str}:∀{binds:List (Str×Value)}{m:Str->Option Value},(∀v,(x,v)∉binds)->bindC kindOf binds m x=m x
 |[],_,_=>rfl
 | (n,v)::r,m,h=>by
  unfold bindC;rw[pH λw hw=>h w (so _ hw)];split
  . rfl
  .
   have:x≠n:=by rintro rfl;exact h v Mw
   simp[this]
theorem pJ{kindOf:Str->Option NameKind}{x:Str}{v:Value}:∀{P:List Str}{vs:List Value}{i:Nat}{m:Str->Option Value},P.Nodup->P[i]?=some x->vs[i]?=some v->kindOf x=some .local ->
  bindL kindOf (P.zip vs) m x=some v
 |[],_,_,_,_,h,_,_=>by simp at h
 |_::_,[],_,_,_,_,h,_=>by simp at h
 | p::P,w::vs,0,m,nd,h1,h2,hk=>by simp at h1 h2;subst h1;subst h2;show bindL kindOf ((p,w)::P.zip vs) m p=_;unfold bindL;rw[pG λv hv=>(MQ.mp nd).1 (List.of_mem_zip hv).1,if_pos hk];simp
 | p::P,w::vs,i+1,m,nd,h1,h2,hk=>by show bindL kindOf ((p,w)::P.zip vs) m x=_;unfold bindL;exact pJ (i:=i) (MQ.mp nd).2 (by simpa using h1) (by simpa using h2) hk
theorem pK{kindOf:Str->Option NameKind}{x:Str}{v:Value}:∀{P:List Str}{vs:List Value}{i:Nat}{m:Str->Option Value},P.Nodup->P[i]?=some x->vs[i]?=some v->kindOf x≠some .local ->
  bindC kindOf (P.zip vs) m x=some v
 |[],_,_,_,_,h,_,_=>by simp at h
 |_::_,[],_,_,_,_,h,_=>by simp at h
 | p::P,w::vs,0,m,nd,h1,h2,hk=>by simp at h1 h2;subst h1;subst h2;show bindC kindOf ((p,w)::P.zip vs) m p=_;unfold bindC;rw[pH λv hv=>(MQ.mp nd).1 (List.of_mem_zip hv).1,if_neg hk];simp
 | p::P,w::vs,i+1,m,nd,h1,h2,hk=>by show bindC kindOf ((p,w)::P.zip vs) m x=_;unfold bindC;exact pK (i:=i) (MQ.mp nd).2 (by simpa using h1) (by simpa using h2) hk
noncomputable def kC(N:List Str)(vs:List V):St:=vs.map some++List.replicate (N.length-vs.length) none
noncomputable def yi(CX:Jj)(P:Program)(w:World)(K:PySem.W.Frag)(mg:Str->Option Value)(base:Heap)(N:List Str)(qual:Str)(scope:Scope)(f:Addr)(cd:Value)(A:Around)(outer:List Env)(s:Shared)(H:Hp)(E:XK):Cx where
 prog:=P
 w:=w
 K:=K
 mg:=mg
 base:=base
 A:=A.deeper (envOfC qual scope s.heap.objs.size f cd)
 N:=N
 s₀:=s
 H₀:=H
 env:=envOfC qual scope s.heap.objs.size f cd
 outer:=outer
 stack:=envOfC qual scope s.heap.objs.size f cd::outer
 ex:=[]
 calm:=true
 fn:=λ_=>true
 pn:=[]
 xe:=λe s'=>wpAny (model P w) (A.deeper (envOfC qual scope s.heap.objs.size f cd)) (leaving (envOfC qual scope s.heap.objs.size f cd) e) (λ_ s''=>CX outer H s E e s'') (λe' s''=>CX outer H s E e' s'') s'
theorem sU{sc:Scope}{n:Nat}{x:Str}(h:sc.names.lookup x=some .cell):∃c,(cellsFrom n sc.names []).lookup x=some c:=by have q:=PySem.W.cellsFrom_some sc.names n [] (.inl h);exact Option.isSome_iff_exists.mp q
theorem vO{CX:Jj}{P:Program}{w:World}{K:PySem.W.Frag}{mg:Str->Option Value}{base:Heap}{N ps:List Str}{qual:Str}{scope:Scope}{f:Addr}{cd:Value}{A:Around}{outer:List Env}{s s1:Shared}{H:Hp}{E:XK}{us:List Value}{vs:List V}
  (S:aO N ps scope) (hd:A.handled=none) (e0:vM P w K mg base A outer s H) (hl:vs.length=ps.length) (r:bL vs us)
  (x:InCallC s s.heap.objs.size (bindL (envOfC qual scope s.heap.objs.size f cd).kindOf (ps.zip us) λ_=>none) (cellsFrom (s.heap.objs.size+1) scope.names []) (bindC (envOfC qual scope s.heap.objs.size f cd).kindOf (ps.zip us) λ_=>none) s1) :
  IR (yi CX P w K mg base N qual scope f cd A outer s H E) [] (kC N vs) H s1:=by
 have hpl:ps.length<=N.length:=by have:=Os List.length S.pre;rw[M8]at this;omega
 obtain⟨h1,tk,rfl,hk⟩:=x.done;have noA:∀b:Addr,b∉(yi CX P w K mg base N qual scope f cd A outer s H E).ex:=λb z=>absurd (show b∈([]:List Addr)from z) v6
 refine⟨⟨e0.mod,S.kind,rfl,rfl,ME _,λy z c h1 h2=>?_,λy hy=>?_,λy c _ h=>?_,λ_=>hd,Around.frames_deeper e0.frames,.inr ⟨rfl,rfl⟩,λb z=>absurd z (noA b),e0.bs,e0.bsz,λb _ _=>noA b,λb z=>absurd z (noA b),e0.funs,e0.frf,e0.tbs⟩,
  rfl,e0.bare,Un.kept hk,⟨_,x.toInCall.ns,λi y v h1 h2 h3=>?_⟩,λy c h=>⟨_,x.cell y c h⟩,e0.hok.fresh (ME _),λy c h=>?_,λp hp=>absurd (show p∈([]:List (Addr×Obj))from hp) v6,e0.hok.kept hk,?_⟩
 . exact name_of_addr x.apart (NG h1) (NG h2)
 .
  have hy:scope.names.lookup y=some .cell∨scope.names.lookup y=some .free:=hy;rcases hy with hy|hy
  . exact sU hy
  . exact absurd rfl (S.nofree _ (NG hy))
 . exact Nat.le_of_lt (x.above y c (NG h))
 .
  have hi:i<vs.length:=by
   unfold kC at h2;by_cases hi:i<vs.length
   . exact hi
   . rw[MW (by simpa using hi)]at h2;rw[List.getElem?_replicate]at h2;split at h2<;>cases h2
  have ha:vs[i]?=some v:=by
   unfold kC at h2;rw[Nh (by simpa using hi),Nc]at h2
   cases e:vs[i]? with
   |none=>rw[e]at h2;cases h2
   |some a=>rw[e]at h2;cases h2;rfl
  obtain⟨u,hu,rv⟩:=r.get ha;have hp:ps[i]?=some y:=by rw[<- S.pre,List.getElem?_take_of_lt xL];exact h1
  have ndP:ps.Nodup:=by rw[<- S.pre];exact S.nd.sublist (List.take_sublist _ _)
  refine⟨u,rv,?_⟩;rcases S.par y (List.mem_of_getElem? hp)with k|k
  . exact .inl ⟨k,pJ ndP hp hu k⟩
  . obtain⟨c,e⟩:=sU (n:=s.heap.objs.size+1) k;refine .inr ⟨.inl k,c,e,?_⟩;have q:=x.cell y c e;rw[pK ndP hp hu (by show scope.names.lookup y≠_;rw[k];decide)]at q;exact q
 . exact .inl (e0.hok.fresh (Nat.le_of_lt (x.above y c (NG h))))
 . unfold kC;show _=N.length;rw[MK,MD,NP];omega
theorem AW{CX:Jj}{P:Program}{w:World}{K:PySem.W.Frag}{mg:Str->Option Value}{base:Heap}{k:Nat}{f:Addr}{name qual:Str}{params:Arguments}{body:List Stmt}{scope:Scope}{dV kV doc pm cdv ct oc:Value}{an od:Option Addr}
  {osl:Array (Option Value)} {N ps:List Str} {sp:Sp} (lk:K.lookup f=some ⟨oc,od,.func (PySem.W.fnOf name qual params body scope dV kV doc pm an cdv ct),osl⟩) (hcd:PySem.W.codeIn K cdv qual=true) (S:aO N ps scope)
  (len:∀vs H Q E,sp vs H Q E->vs.length=ps.length)
  (hbody:∀(A:Around)(outer:List Env)(s:Shared)(H:Hp)(vs:List V)(Q:VK)(E:XK),fw k (A.deeper (envOfC qual scope s.heap.objs.size f cdv))->sp vs H Q E ->
   ∃t,IS (yi CX P w K mg base N qual scope f cdv A outer s H E) body t/\t {nx:=λ_ H'=>Q .non H',rt:=Q} (kC N vs) H) :
  FnOk P w K mg base CX (k+1) f (PySem.W.fnOf name qual params body scope dV kV doc pm an cdv ct) ps sp:=by
 refine⟨len,λA outer s H args us vs Q E hr e0 hb r hsp=>?_⟩;have hl:=len _ _ _ _ hsp;have KX:K.In s.heap:=e0.mod.kin.keeps λb o e=>(e0.bs b o e).1;have lim:s.heap.NoLimit:=e0.mod.nolimit.keeps λb o e=>(e0.bs b o e).1
 have hkind:∀y∈ps.zip us,scope.names.lookup y.1=some .local∨(scope.names.lookup y.1=some .cell/\((cellsFrom (s.heap.objs.size+1) scope.names []).lookup y.1).isSome=true):=fun⟨n,v⟩ hy=>by
  rcases S.par n (List.of_mem_zip hy).1 with q|q
  . exact .inl q
  . exact .inr ⟨q,PySem.W.cellsFrom_some _ _ _ (.inl q)⟩
 refine codeAny_call_function hr.depth (KX _ _ lk) rfl S.co S.gen rfl (PySem.W.codeRec_of KX hcd) (hb _ _ _ _ ?_);refine wpAny_newFunctionEnv_cells S.kind hkind λenv he s1 x=>?_;subst he;refine⟨lim.keeps x.toInCall.keep,codeAny_func ?_⟩;obtain⟨t,ht,hq⟩:=hbody A outer s H vs Q E (hr.deeper _) hsp;have I:IR (yi CX P w K mg base N qual scope f cdv A outer s H E) [] (kC N vs) H s1:=vO S hr.hd e0 hl r x;refine Np (ht [] s1 (kC N vs) H _ I hq) (λfl s' hs=>?_) λe s' hs=>hs
 have IV:∀{σ':St}{H':Hp}{v:V}{u:Value},IR (yi CX P w K mg base N qual scope f cdv A outer s H E) [] σ' H' s'->bF v u->Q v H'->CE outer P w H s Q u s' :=
  λ{σ' H' v u} J rv q=>⟨v,H',J.os,J.bare,J.base,J.hok,rv,q⟩
 cases fl with
 | ret u =>
  obtain⟨v,σ',H',J,rv,q⟩:=hs;exact IV J rv q
 | next =>
  obtain⟨σ',H',J,q⟩:=hs;exact IV (v:=V.non) (u:=Value.none) J rfl q
 | brk =>
  obtain⟨_,_,_,q⟩:=hs;exact False.elim q
 | cont =>
  obtain⟨_,_,_,q⟩:=hs;exact False.elim q
section
variable{X:Cx}{x:Str}{p pos:Pos}{e:Expr}{es:List Expr}{t:TA}{id:String}{r:List V->Hp->VK->Prop}
def Jk(r:List V->Hp->VK->Prop)(t:TA):TE:=λσ H Q=>t σ H λvs H1=>r vs H1 Q
theorem lR(hc:gY X (.builtin id) r)(hg:Gl X x)(hm:X.mg x=none)(hv:bootBuiltins x=some (.builtin id))(ha:PA X (e::es) t) (hn:x≠"__name__":=by decide) (hdb:(x == ("__debug__" : Str))=false:=by decide)
  (he:starEach (e::es) X.env=(false,eval e X.env)::starEach es X.env:=by rfl) (hpl:(backTo pos (starEach es X.env)).any (·.1)=false:=by rfl):PE X (.Call (.Name x p) (e::es) [] pos) (Jk r t):=by
 intro gV s σ H Q I h;refine Nw (k9 I hg hm hv ?_ hn hdb);exact PyProof.Rows.callWith_builtin1 (IT (ha pos gV s σ H _ I h) λus s1 ⟨vs,H1,I1,r1,q1⟩=>hc gV s1 σ H1 vs us Q I1 r1 q1) he hpl
end
end L2
namespace HT
open PySem PyProof.Rows
section
variable{prog:Program}{w:World}{A:Around}{E:Value->Shared->Prop}{s:Shared}
noncomputable def sIx(n d:Nat):Option Int->Nat
 |none=>d
 |some v=>if v<0 then(v+(n:Int)).toNat else min v.toNat n
theorem sIx_none(n d:Nat):sIx n d none=d:=rfl
theorem sIx_nat(n d k:Nat):sIx n d (some (k:Int))=min k n:=by
 show(if(k:Int)<0 then((k:Int)+(n:Int)).toNat else min (k:Int).toNat n)=min k n
 rw[if_neg (by omega),Int.toNat_natCast]
theorem Dr(n d:Nat)(hd:d<=n)(o:Option Int):sIx n d o<=n:=by
 cases o with
 |none=>exact hd
 | some v =>
  show(if v<0 then(v+(n:Int)).toNat else min v.toNat n)<=n
  by_cases hv:v<0
  . rw[if_pos hv];omega
  . rw[if_neg hv];exact Nat.min_le_right _ _
theorem vP(v:Int)(n d:Nat):(if v<0 then max (v+(n:Int)) 0 else min v (n:Int))=((sIx n d (some v):Nat):Int):=by
 show(if v<0 then max (v+(n:Int)) 0 else min v (n:Int))=(((if v<0 then(v+(n:Int)).toNat else min v.toNat n):Nat):Int)
 by_cases hv:v<0
 . simp only[if_pos hv];omega
 . simp only[if_neg hv];omega
theorem uC(lo hi:Option Int)(n:Nat):Builtin.Slice.sliceAdjust lo hi 1 (n:Int)=(((sIx n 0 lo:Nat):Int),((sIx n n hi:Nat):Int)):=by
 have h1:¬((1:Int)<0):=by omega
 unfold Builtin.Slice.sliceAdjust;simp only[h1,if_false];refine Prod.ext ?_ ?_
 .
  cases lo with
  |none=>rfl
  |some v=>exact vP v n 0
 .
  cases hi with
  |none=>rfl
  |some v=>exact vP v n n
theorem uD(i j:Nat):Builtin.Slice.slicePlaces (i:Int) (j:Int) 1=j-i:=by
 unfold Builtin.Slice.slicePlaces;have h1:(1:Int) > 0:=by omega
 simp only[h1,if_true,Int.ediv_one];split<;>omega
theorem nK{v:Value}{o:Option Int}{Q:Option Int->Shared->Prop}(p:IsPart v o)(h:Q o s):wpAny (model prog w) A (Builtin.Slice.slicePartIndex v) Q E s:=by
 cases p with
 |none=>exact slicePart_none h
 |int i t=>exact slicePart_int h
theorem lu{sl:Addr}{vl vu:Value}{lo hi:Option Int}{n:Nat}{Q:Int×Int×Nat->Shared->Prop}(hs:s.heap.IsSliceOf sl vl vu .none)(pl:IsPart vl lo)(pu:IsPart vu hi)
  (h:Q (((sIx n 0 lo:Nat):Int),1,sIx n n hi-sIx n 0 lo) s):wpAny (model prog w) A (Builtin.Slice.sliceApplied (.ref sl) (pure (n:Int))) Q E s:=by
 obtain⟨os,hos,hcs,hds⟩:=id hs;unfold Builtin.Slice.sliceApplied Builtin.Slice.sliceFields;refine kS (kS (Ob hos hds (x:=vl) rfl (kS (Ob hos hds (x:=vu) rfl (kS (Ob hos hds (x:=.none) rfl (MB ?_)))))));refine kS (slicePart_none ?_)
 show wpAny _ _ (if((1:Int) == 0)=true then _ else _) _ _ s
 rw[if_neg (by decide)];refine kS (nK pl (kS (nK pu (kS (MB ?_)))))
 show wpAny _ _ (match Builtin.Slice.sliceAdjust lo hi 1 (n:Int)with|(lo,hi)=>pure (lo,(1:Int),Builtin.Slice.slicePlaces lo hi 1)) _ _ s
 rw[uC lo hi n];show wpAny _ _ (pure (((sIx n 0 lo:Nat):Int),(1:Int),Builtin.Slice.slicePlaces ((sIx n 0 lo:Nat):Int) ((sIx n n hi:Nat):Int) 1)) _ _ s;rw[uD];exact MB h
theorem yv(xs:Array Value)(i k:Nat):((List.range k).filterMap λ(m:Nat)=>xs[((i:Int)+(m:Int)*1).toNat]?).toArray=((xs.toList.drop i).take k).toArray:=by
 have e:(λ(m:Nat)=>xs[((i:Int)+(m:Int)*1).toNat]?)=λm=>xs[i+m]?:=by
  funext m
  have:((i:Int)+(m:Int)*1).toNat=i+m:=by omega
  rw[this]
 rw[e];have:=pick_run xs i k;rw[List.filterMap_map]at this;have e2:((λx=>xs[x]?) ∘ λx=>i+x)=λm=>xs[i+m]?:=rfl;rw[e2]at this;rw[this]
theorem getItem_tuple_cut{t sl:Addr}{items:Array Value}{vl vu:Value}{lo hi:Option Int}{Q:Value->Shared->Prop}(ht:IsTup s.heap t items)(hs:s.heap.IsSliceOf sl vl vu .none)(pl:IsPart vl lo)(pu:IsPart vu hi)
  (hw:¬(sIx items.size 0 lo=0/\sIx items.size items.size hi=items.size))
  (h:Q (.ref s.heap.objs.size) {s with heap:=s.heap.push {cls:=.type "tuple",data:=.seq ((items.toList.drop (sIx items.size 0 lo)).take (sIx items.size items.size hi-sIx items.size 0 lo)).toArray} })
  (hsz:items.size<=sizeLine):wpAny (model prog w) A (getItem (.ref t) (.ref sl)) Q E s:=by
 have htake:sizeOk (.seq ((items.toList.drop (sIx items.size 0 lo)).take (sIx items.size items.size hi-sIx items.size 0 lo)).toArray):=by show((items.toList.drop (sIx items.size 0 lo)).take (sIx items.size items.size hi-sIx items.size 0 lo)).toArray.size<=sizeLine;rw[MF,M8,Nm,Of];omega
 have hj:sIx items.size items.size hi<=items.size:=Dr _ _ (ME _) hi;obtain⟨os,hos,hcs,hds⟩:=id hs;have hTs:s.TypeIs (.ref sl) "slice":=⟨os,hos,hcs⟩;unfold getItem
 try with_reducible refine NT ?_
 first|refine kS (MB ?_)|skip
 refine kS (wpAny_sequenceKey ht.typeIs x_ ?_)
 refine kS (wpAny_callSpecial?_slot (name:=Str.ofString "__getitem__") ht.typeIs PyProof.Rows.slot_tuple_getitem
  (wpAny_call_entry PyProof.Rows.slot_tuple_getitem ht.typeIs entry_tuple_getitem ?_ (args_tuple_getitem _ _)))
 show wpAny _ _ (Builtin.Tuple.tupleItemsOf (.ref t) >>= _) _ _ s;refine kS (tupleItemsOf_ ht ?_);refine kS (wpAny_typeOf hTs ?_);rw[if_pos (by decide)];refine kS (lu hs pl pu ?_);have hno:¬((((sIx items.size 0 lo:Nat):Int) == 0 && (1:Int) == 1 && (sIx items.size items.size hi-sIx items.size 0 lo) == items.size)=true):=by intro q;rw[MR,MR]at q;have q1:((sIx items.size 0 lo:Nat):Int)=0:=eq_of_beq q.1.1;have q2:sIx items.size items.size hi-sIx items.size 0 lo=items.size:=eq_of_beq q.2;exact hw ⟨xL,xL⟩
 show wpAny _ _ (if(((sIx items.size 0 lo:Nat):Int) == 0 && (1:Int) == 1 && (sIx items.size items.size hi-sIx items.size 0 lo) == items.size)=true then _ else _) _ _ s
 rw[if_neg hno,yv]
 first
  |exact kS (m:=Builtin.Tuple.tupleExact _) (NX (MB ⟨_,rfl,MB h⟩) htake)
  |exact kS (m:=Builtin.Tuple.tupleExact _) (NX (kS (MB (MB ⟨_,rfl,MB h⟩))) htake)
  |exact kS (kS (m:=Builtin.Tuple.tupleExact _) (NX (MB (MB ⟨_,rfl,MB h⟩)) htake))
  |exact kS (kS (m:=Builtin.Tuple.tupleExact _) (NX (MB ⟨_,rfl,MB h⟩) htake))
end
end HT
namespace L2
open PySem PySem.Spec PyProof.Rows
noncomputable abbrev TO:=St->Hp->(Option Int->Hp->Prop)->Prop
def PO(X:Cx)(e:Option Expr)(t:TO):Prop :=
 ∀(gV:List (Addr×Obj))(s:Shared)(σ:St)(H:Hp)(Q:Option Int->Hp->Prop),IR X gV σ H s->t σ H Q ->
  wpAny (model X.prog X.w) X.A (evalPart e X.env) (λu s'=>∃o H',IR X gV σ H' s'/\IsPart u o/\Q o H') X.xe s
noncomputable def AX:TO:=λ_ H Q=>Q none H
noncomputable def FW(t:TE):TO:=λσ H Q=>t σ H λx H1=>∃i,x=.int i/\Q (some i) H1
section
variable{X:Cx}{e:Expr}{te:TE}{lo hi:Option Expr}{tl th:TO}{pos p2:Pos}
theorem AY:PO X none AX:=by intro gV s σ H Q I h;rw[evalPart_none];exact MB ⟨none,H,I,.none,h⟩
theorem AZ(h:PE X e te):PO X (some e) (FW te):=by intro gV s σ H Q I hw;rw[evalPart_some];refine IT (h gV s σ H _ I hw) λu s1 ⟨x,H1,I1,r1,q1⟩=>?_;obtain⟨i,rfl,q⟩:=q1;obtain⟨t,rfl⟩:=r1;exact⟨some i,H1,I1,.int i t,q⟩
def Jl(X:Cx)(r:V->Option Int->Option Int->Hp->VK->Prop):Prop :=
 ∀(gV:List (Addr×Obj))(s:Shared)(σ:St)(H:Hp)(x:V)(v vl vu:Value)(lo hi:Option Int)(sl:Addr)(Q:VK),IR X gV σ H s->bF x v->s.heap.IsSliceOf sl vl vu .none->IsPart vl lo->IsPart vu hi->r x lo hi H Q ->
  ∃ T id,typeLookup (.type T) "__getitem__"=pure (some (.builtin id))/\s.TypeIs v T/\wpAny (model X.prog X.w) X.A (getItem v (.ref sl)) (EP X gV σ Q) X.xe s
theorem Jl.or{r r':V->Option Int->Option Int->Hp->VK->Prop}(h:Jl X r)(h':Jl X r'):Jl X (λx lo hi H Q=>r x lo hi H Q∨r' x lo hi H Q):=by
 intro gV s σ H x v vl vu lo hi sl Q I rx hs pl pu q;rcases q with q|q
 . exact h gV s σ H x v vl vu lo hi sl Q I rx hs pl pu q
 . exact h' gV s σ H x v vl vu lo hi sl Q I rx hs pl pu q
def Jm(r:V->Option Int->Option Int->Hp->VK->Prop)(te:TE)(tl th:TO):TE:=λσ H Q=>te σ H λx H1=>tl σ H1 λl H2=>th σ H2 λu H3=>r x l u H3 Q
theorem yw{r:V->Option Int->Option Int->Hp->VK->Prop}(hr:Jl X r)(he:PE X e te)(hl:PO X lo tl)(hu:PO X hi th):PE X (.Subscript e (.Slice lo hi none p2) pos) (Jm r te tl th):=by intro gV s σ H Q I h;refine Subscript_ (IT (he gV s σ H _ I h) λv s1 ⟨x,H1,I1,r1,q1⟩=>?_);refine wpAny_Slice (IT (hl gV s1 σ H1 _ I1 q1) λvl s2 ⟨l,H2,I2,pl,q2⟩=>IT (hu gV s2 σ H2 _ I2 q2) λvu s3 ⟨u,H3,I3,pu,q3⟩=>?_);rw[evalPart_none];refine MB ?_;have I4:IR X gV σ H3 {s3 with heap:=s3.heap.push {cls:=.type "slice",data:=.fields #[vl,vu,.none] } }:=I3.kept (t':=s3.toks) λb ob q=>tu _ q;obtain⟨T,id,hT,ht,hg⟩:=hr gV {s3 with heap:=s3.heap.push {cls:=.type "slice",data:=.fields #[vl,vu,.none] } } σ H3 x v vl vu l u s3.heap.objs.size Q I4 r1 (Heap.IsSliceOf.new ..) pl pu q3;show wpAny (model X.prog X.w) X.A (subscriptTail e (.Slice lo hi none p2) v (.ref s3.heap.objs.size)) (EP X gV σ Q) X.xe {s3 with heap:=s3.heap.push {cls:=.type "slice",data:=.fields #[vl,vu,.none] } };exact tail_any (ops:=[.ref s3.heap.objs.size,v]) ht hT hg (by with_unfolding_all rfl)
noncomputable def Aj(xs:List V)(lo hi:Option Int):List V:=(xs.drop (HT.sIx xs.length 0 lo)).take (HT.sIx xs.length xs.length hi-HT.sIx xs.length 0 lo)
theorem l4(xs:List V)(lo hi:Option Int):(Aj xs lo hi).length<=xs.length:=by unfold Aj;rw[M8,Nm];omega
def HQ(K:PySem.W.Frag):V->Option Int->Option Int->Hp->VK->Prop:=λx lo hi H Q=>∃a xs,x=.ref a/\IX K H a xs /\
 ¬(HT.sIx xs.length 0 lo=0/\HT.sIx xs.length xs.length hi=xs.length)/\∀p,H p=none->Q (.ref p) (IH H p (.tup (Aj xs lo hi)))
theorem Ds:Jl X (HQ X.K):=by
 intro gV s σ H x v vl vu lo hi sl Q I rx hs pl pu h;obtain⟨a,xs,rfl,hx,hw,q⟩:=h;cases rx;obtain⟨its,r,ht,hz⟩:=I.tuple hx;have kz:its.toArray.size=xs.length:=by rw[MF];exact r.length.symm
 refine⟨"tuple",_,PyProof.Rows.slot_tuple_getitem.lookup,ht.typeIs,?_⟩;refine HT.getItem_tuple_cut ht hs pl pu (by rw[kz];exact hw) ?_ (by rw[kz];exact hz);rw[kz];refine⟨.ref s.heap.objs.size,_,I.laid (t':=s.toks) (o:=.tup (Aj xs lo hi)) (λb ob q=>tu _ q) (ME _) ?_,rfl,q _ (I.hok.fresh (ME _))⟩;exact⟨MH (l4 xs lo hi) hz,_,(r.drop (HT.sIx xs.length 0 lo)).take (HT.sIx xs.length xs.length hi-HT.sIx xs.length 0 lo),IsTup.new _ _⟩
end
noncomputable def Jn(n:Nat)(i:Int):Option Nat:=if 0<=i then(if i<n then some i.toNat else none)else if -(n:Int)<=i then some (i+n).toNat else none
noncomputable def Jo{α:Type}(xs:List α)(i:Int):Option α:=(Jn xs.length i).bind λj=>xs[j]?
theorem vQ{n:Nat}{i:Int}{j:Nat}(h:Jn n i=some j):seqIndex? i n=some j/\j<n/\-(n:Int)<=i/\i<n:=by
 unfold Jn at h;by_cases h0:0<=i
 .
  rw[if_pos h0]at h;by_cases h1:i<n
  . rw[if_pos h1]at h;have e:i.toNat=j:=MZ h;exact⟨by rw[seqIndex_of h0 h1,e],xL,xL,h1⟩
  . rw[if_neg h1]at h;cases h
 .
  rw[if_neg h0]at h;by_cases h1 : -(n:Int)<=i
  . rw[if_pos h1]at h;have e:(i+n).toNat=j:=MZ h;exact⟨by rw[seqIndex_neg xL h1,e],xL,h1,xL⟩
  . rw[if_neg h1]at h;cases h
theorem rj{α:Type}{xs:List α}{i:Int}{v:α}(h:Jo xs i=some v):∃j,seqIndex? i xs.length=some j/\xs[j]?=some v/\j<xs.length/\-(xs.length:Int)<=i/\i<xs.length:=by
 unfold Jo at h
 cases e:Jn xs.length i with
 |none=>rw[e]at h;cases h
 | some j =>
  rw[e]at h;obtain⟨h1,h2,h3,h4⟩:=vQ e;exact⟨j,h1,h,h2,h3,h4⟩
theorem fW{α:Type}{xs:List α}{j:Nat}{v:α}(h:xs[j]?=some v):Jo xs (j:Int)=some v:=by
 have hj:j<xs.length:=(Mx.mp h).1;have e:Jn xs.length (j:Int)=some j:=by unfold Jn;rw[if_pos (by omega),if_pos (by omega)];simp
 unfold Jo;rw[e];exact h
def rk(b:Expr):Prop:=∀o i,subscripted b false o i=operate [o,i] (getItem o i)
def Jp(X:Cx)(r:R2):Prop :=
 ∀(value slice:Expr)(gV:List (Addr×Obj))(s:Shared)(σ:St)(H:Hp)(x y:V)(v u:Value)(Q:VK),IR X gV σ H s->bF x v->bF y u->r x y H Q ->
  subscripted slice false v u=operate [v,u] (getItem v u)->wpAny (model X.prog X.w) X.A (subscriptTail value slice v u) (EP X gV σ Q) X.xe s
def Jq(X:Cx)(id:String)(r:V->List V->Hp->VK->Prop):Prop :=
 ∀(gV:List (Addr×Obj))(s:Shared)(σ:St)(H:Hp)(x:V)(xs:List V)(v:Value)(us:List Value)(Q:VK),IR X gV σ H s->bF x v->bL xs us->r x xs H Q ->
  wpAny (model X.prog X.w) X.A (call (.builtin id) (v::us)) (EP X gV σ Q) X.xe s
section
variable{X:Cx}{a b:Expr}{ta tb:TE}{pos:Pos}
theorem FY{r:R2}(hr:Jp X r)(ha:PE X a ta)(hb:PE X b tb)(hs:rk b):PE X (.Subscript a b pos) (Je r ta tb):=by intro gV s σ H Q I h;exact Subscript_ (HL ha hb I h λv u s2 x y H2 I2 rx ry q=>hr a b gV s2 σ H2 x y v u Q I2 rx ry q (hs _ _))
def HR(K:PySem.W.Frag):R2:=λx y H Q=>∃p xs i v,x=.ref p/\y=.int i/\IW K H p xs/\Jo xs i=some v/\Q v H
def HS(K:PySem.W.Frag):R2:=λx y H Q=>∃p xs i v,x=.ref p/\y=.int i/\IX K H p xs/\Jo xs i=some v/\Q v H
def HU:R2:=λx y H Q=>∃z i c,x=.str z/\y=.int i/\z.length<=sizeLine/\Jo z.cps.toList i=some c/\Q (.str ⟨#[c]⟩) H
theorem vR:Jp X (HR X.K):=by
 intro value slice gV s σ H x y v u Q I rx ry h hs;obtain⟨p,xs,i,z,rfl,rfl,hq,he,q⟩:=h;cases rx;obtain⟨t,rfl⟩:=ry;obtain⟨its,r,pl,hz⟩:=I.list hq;obtain⟨j,h1,h2,h3,h4,h5⟩:=rj he;obtain⟨w,ew,rw'⟩:=r.get h2;have hl:=r.length;have hn:=nJ;have IV:EP X gV σ Q w s:=⟨z,H,I,rw',q⟩;by_cases h0:0<=i
 .
  have hj:i.toNat=j:=by rw[seqIndex_of h0 h5]at h1;exact MZ h1
  exact item_listR pl.isList h0 xL (by rw[hj];simpa using ew) IV hs
 .
  have hj:(i+(its.toArray.size:Int)).toNat=j:=by rw[seqIndex_neg xL h4]at h1;rw[MF,<- hl];exact MZ h1
  exact subscriptTail_builtinR (x:=w) pl.isList.typeIs slot_list_getitem.lookup
   (wpAny_getItem_list_neg (Q:=λr s'=>r=w/\EP X gV σ Q r s') pl.isList xL (by rw[MF]<;>omega) xL (by rw[hj];simpa using ew) ⟨rfl,IV⟩) hs
theorem Dt:Jp X (HS X.K):=by
 intro value slice gV s σ H x y v u Q I rx ry h hs;obtain⟨p,xs,i,z,rfl,rfl,hq,he,q⟩:=h;cases rx;obtain⟨t,rfl⟩:=ry;obtain⟨its,r,pl,hz⟩:=I.tuple hq;obtain⟨j,h1,h2,h3,h4,h5⟩:=rj he;obtain⟨w,ew,rw'⟩:=r.get h2;have hl:=r.length;have hn:=nJ;have IV:EP X gV σ Q w s:=⟨z,H,I,rw',q⟩
 exact subscriptTail_builtinR (x:=w) pl.typeIs slot_tuple_getitem.lookup
  (getItem_tuple (j:=j) (Q:=λr s'=>r=w/\EP X gV σ Q r s') pl xL xL (by rw[MF,<- hl];exact h1) (by simpa using ew) ⟨rfl,IV⟩) hs
theorem Du:Jp X HU:=by
 intro value slice gV s σ H x y v u Q I rx ry h hs;obtain⟨z,i,c,rfl,rfl,hz,he,q⟩:=h;obtain⟨t,rfl⟩:=rx;obtain⟨t',rfl⟩:=ry;obtain⟨j,h1,h2,h3,h4,h5⟩:=rj he;have hl:z.cps.toList.length=z.length:=by simp[Str.length]
 rw[hl]at h1 h4 h5;have hn:=nJ
 exact tail_any (typeIs_str s z t) slot_str_getitem.lookup (getItem_str (c:=c) (by
  have e1:decide (i < -(2^63:Int))=false:=MP xL;have e2:decide (i≥2^63)=false:=MP xL
  rw[e1,e2,Oq]) (by rw[h1];simpa using h2) ⟨.str ⟨#[c]⟩,H,I.tok _,⟨_,rfl⟩,q⟩) hs
theorem uE(its:List Value)(n j:Nat)(u:Value):Obj.mapSeq (·.setIfInBounds j u) {cls:=.type "list",data:=.seq its.toArray n}={cls:=.type "list",data:=.seq (its.set j u).toArray n}:=by simp[Obj.mapSeq]
theorem IR.lst{gV:List (Addr×Obj)}{σ:St}{H:Hp}{s:Shared}{p:Addr}{xs:List V}(I:IR X gV σ H s)(h:H p=some (.lst xs)) :
  ∃(its:List Value)(n:Nat),bL xs its/\s.heap.get? p=some {cls:=.type "list",data:=.seq its.toArray n}/\xs.length<=sizeLine:=by
 obtain⟨z,its,n,r,e⟩:=I.hok p _ h;exact⟨its,n,r,e,z⟩
theorem IR.lstUpd{gV:List (Addr×Obj)}{σ:St}{H:Hp}{s:Shared}{p:Addr}{xs ys:List V}{its its':List Value}{n n':Nat}{f:Obj->Obj}(I:IR X gV σ H s)(h:H p=some (.lst xs))
  (ho:s.heap.get? p=some {cls:=.type "list",data:=.seq its.toArray n}) (hf:f {cls:=.type "list",data:=.seq its.toArray n}={cls:=.type "list",data:=.seq its'.toArray n' }) (r:bL ys its') (hz:ys.length<=sizeLine) (t:Nat) :
  IR X gV σ (IH H p (.lst ys)) {s with heap:=s.heap.update p f,toks:=t}:=by
 have e:(s.heap.update p f).get? p=some {cls:=.type "list",data:=.seq its'.toArray n' }:=by rw[NI f ho (by rw[hf]<;>rfl),hf]
 refine I.write (x:=p) (e:=p) (by rw[h];trivial) (.inl rfl) (λb u hb q=>(M7 _ _ (NH hb)).trans q) ⟨_,e⟩ ?_;exact⟨hz,its',n',r,e⟩
def FZ:V->V->V->Hp->(Hp->Prop)->Prop:=λo i v H Q=>∃p xs k j,o=.ref p/\i=.int k/\H p=some (.lst xs)/\Jn xs.length k=some j/\Q (IH H p (.lst (xs.set j v)))
theorem yx:G6 X FZ:=by
 intro gV s σ H o i v ov iv u Q I ro ri rv h;obtain⟨p,xs,k,j,rfl,rfl,hp,hj,q⟩:=h;cases ro;obtain⟨t,rfl⟩:=ri;obtain⟨its,n,r,ho,hz⟩:=I.lst hp;obtain⟨h1,h2,h3,h4⟩:=vQ hj;have hl:=r.length;have hn:=nJ
 have I':IR X gV σ (IH H p (.lst (xs.set j v))) {s with heap:=s.heap.update p (Obj.mapSeq (·.setIfInBounds j u)) } :=
  I.lstUpd hp ho (uE its n j u) (r.set rv j) (by rw[List.length_set];exact hz) s.toks
 by_cases h0:0<=k
 .
  have hk:k.toNat=j:=by rw[seqIndex_of h0 h4]at h1;exact MZ h1
  exact PySem.W.ki_setAt ho h0 xL (by rw[MF,<- hl];exact h4) (by rw[hk];exact⟨_,I',q⟩)
 .
  have hk:(k+(its.toArray.size:Int)).toNat=j:=by rw[seqIndex_neg xL h3]at h1;rw[MF,<- hl];exact MZ h1
  exact PySem.W.ki_setBack ho xL (by rw[MF,<- hl];exact h3) xL (by rw[hk];exact⟨_,I',q⟩)
theorem pL(lo hi:Option Int)(n:Nat):(sliceBounds lo hi none n).1=((HT.sIx n 0 lo:Nat):Int)/\(sliceBounds lo hi none n).2.1=((HT.sIx n n hi:Nat):Int)/\(sliceBounds lo hi none n).2.2=1:=by
 refine⟨?_,?_,rfl⟩
 .
  cases lo with
  |none=>simp[sliceBounds,HT.sIx]
  | some i =>
   simp only[sliceBounds,HT.sIx,Option.getD_none,show(1:Int) > 0 by decide,if_true];by_cases h:i<0
   . simp only[h,if_true]<;>omega
   . simp only[h,if_false]<;>omega
 .
  cases hi with
  |none=>simp[sliceBounds,HT.sIx]
  | some i =>
   simp only[sliceBounds,HT.sIx,Option.getD_none,show(1:Int) > 0 by decide,if_true];by_cases h:i<0
   . simp only[h,if_true]<;>omega
   . simp only[h,if_false]<;>omega
theorem oB(its:List Value)(lo hi:Option Int):slicePick its.toArray lo hi none=((its.drop (HT.sIx its.length 0 lo)).take (HT.sIx its.length its.length hi-HT.sIx its.length 0 lo)).toArray:=by obtain⟨h1,h2,h3⟩:=pL lo hi its.toArray.size;unfold slicePick;rw[h1,h2,h3];simp only[sliceRange_one,pick_run,MF]<;>rfl
def HV(K:PySem.W.Frag):V->Option Int->Option Int->Hp->VK->Prop:=λx lo hi H Q=>∃a xs,x=.ref a/\IW K H a xs/\∀p,H p=none->Q (.ref p) (IH H p (.lst (Aj xs lo hi)))
theorem A0:Jl X (HV X.K):=by intro gV s σ H x v vl vu lo hi sl Q I rx hs pl pu h;obtain⟨a,xs,rfl,hx,q⟩:=h;cases rx;obtain⟨its,r,ht,hz⟩:=I.list hx;have kz:=r.length;refine⟨"list",_,slot_list_getitem.lookup,ht.isList.typeIs,?_⟩;refine wpAny_getItem_list_slice ht.isList hs pl pu .none v6 ?_ (by rw[MF]<;>omega);rw[oB,<- kz];refine⟨.ref s.heap.objs.size,_,I.laid (t':=s.toks) (o:=.lst (Aj xs lo hi)) (λb ob q=>tu _ q) (ME _) ?_,rfl,q _ (I.hok.fresh (ME _))⟩;exact⟨MH (l4 xs lo hi) hz,_,0,(r.drop (HT.sIx xs.length 0 lo)).take (HT.sIx xs.length xs.length hi-HT.sIx xs.length 0 lo),M4 _ rfl⟩
theorem lb:gY X (.builtin "len") (λxs H Q=>∃ p ys,xs=[.ref p]/\(IW X.K H p ys∨IX X.K H p ys)/\Q (.int ys.length) H):=by
 intro gV s σ H xs us Q I r h;obtain⟨p,ys,rfl,hq,q⟩:=h;obtain⟨u,rfl,rx⟩:=oA r;cases rx;have hn:=nJ;rcases hq with hq|hq
 . obtain⟨its,r',pl,hz⟩:=I.list hq;have kz:=r'.length;exact Calls.call_len_list pl.isList (by simp only[MF]<;>omega) ⟨.int ys.length,H,I.tok _,⟨s.toks+1,by rw[MF,kz]⟩,q⟩
 . obtain⟨its,r',pl,hz⟩:=I.tuple hq;have kz:=r'.length;exact len_tuple pl (by simp only[MF]<;>omega) ⟨.int ys.length,H,I.tok _,⟨s.toks+1,by rw[MF,kz]⟩,q⟩
theorem pM:gY X (.builtin "len") (λxs H Q=>∃ z,xs=[.str z]/\z.length<=sizeLine/\Q (.int z.length) H):=by intro gV s σ H xs us Q I r h;obtain⟨z,rfl,hz,q⟩:=h;obtain⟨u,rfl,t,rfl⟩:=oA r;have hn:=nJ;exact len_str xL ⟨.int z.length,H,I.tok _,⟨_,rfl⟩,q⟩
theorem gY.or{f:Value}{r r':List V->Hp->VK->Prop}(h:gY X f r)(h':gY X f r'):gY X f (λxs H Q=>r xs H Q∨r' xs H Q):=by
 intro gV s σ H xs us Q I rs q;rcases q with q|q
 . exact h gV s σ H xs us Q I rs q
 . exact h' gV s σ H xs us Q I rs q
theorem pN:gY X (.type "list") (λxs H Q=>∃ p ys,xs=[.ref p]/\(IW X.K H p ys∨IX X.K H p ys)/\∀ l,H l=none->Q (.ref l) (IH H l (.lst ys))):=by
 intro gV s σ H xs us Q I r h;obtain⟨p,ys,rfl,hq,q⟩:=h;obtain⟨u,rfl,rx⟩:=oA r;cases rx
 have IV:∀(its:List Value),bL ys its->ys.length<=sizeLine->∀(h':Heap)(c':Nat),(∀b o',s.heap.get? b=some o'->h'.get? b=some o') ->
   h'.get? s.heap.objs.size=some {cls:=.type "list",dict:=none,data:=.seq its.toArray c',slots:=#[] }->EP X gV σ Q (.ref s.heap.objs.size) {s with heap:=h' }:=λits r' hz h' c' kp e =>
  ⟨.ref s.heap.objs.size,_,I.laid (t':=s.toks) kp (ME _) (show cg X.prog X.w _ h' _ (.lst ys)from⟨hz,its,c',r',e⟩),rfl,q _ (I.hok.fresh (ME _))⟩
 rcases hq with hq|hq
 . obtain⟨its,r',pl,hz⟩:=I.list hq;have kz:=r'.length;obtain⟨o,ho,hc,n,hd⟩:=pl.isList;exact call_list_seq p (.inl rfl) ho hc hd (λh' c' kp e=>IV its r' hz h' c' kp e) (by simp only[MF]<;>omega)
 . obtain⟨its,r',pl,hz⟩:=I.tuple hq;have kz:=r'.length;obtain⟨o,ho,hc,n,hd⟩:=pl;exact call_list_seq p (.inr rfl) ho hc hd (λh' c' kp e=>IV its r' hz h' c' kp e) (by simp only[MF]<;>omega)
theorem oC:gY X (.type "tuple") (λxs H Q=>∃ p ys,xs=[.ref p]/\((IW X.K H p ys/\∀ l,H l=none->Q (.ref l) (IH H l (.tup ys)))∨(IX X.K H p ys/\Q (.ref p) H))):=by
 intro gV s σ H xs us Q I r h;obtain⟨p,ys,rfl,h⟩:=h;obtain⟨u,rfl,rx⟩:=oA r;cases rx;rcases h with⟨hq,q⟩|⟨hq,q⟩
 .
  obtain⟨its,r',pl,hz⟩:=I.list hq;have kz:=r'.length;refine call_tuple_list pl.isList (λh' kp=>?_) (by simp only[MF]<;>omega);have I1:IR X gV σ H {s with heap:=h' }:=I.kept (t':=s.toks) kp
  have I2:IR X gV σ (IH H h'.objs.size (.tup ys)) {s with heap:=h'.push {cls:=.type "tuple",data:=.seq its.toArray} } :=
   I1.laid (t':=s.toks) (λb o e=>tu _ e) (ME _) (show cg X.prog X.w _ _ _ (.tup ys)from⟨hz,its,r',IsTup.new _ _⟩)
  exact⟨.ref h'.objs.size,_,I2,rfl,q _ (I1.hok.fresh (ME _))⟩
 . obtain⟨its,r',pl,hz⟩:=I.tuple hq;exact call_tuple_same pl ⟨.ref p,H,I,rfl,q⟩
def Jr(K:PySem.W.Frag)(T:String)(x:V)(H:Hp):Prop:=match x with
 |.str _=>T="str"
 |.int _=>T="int"
 | .ref p=>(T="list"/\∃ xs,IW K H p xs)∨(T="tuple"/\∃ o,K.lookup p=some o/\o.cls=.type "tuple"/\o.dict=none) ∨
   (T="dict"/\((∃ kvs,H p=some (.dK kvs))∨∃ kvs,H p=some (.dT kvs)))∨(T="set"/\∃ S n,H p=some (.set S n))
 |_=>False
theorem Ak{gV:List (Addr×Obj)}{σ:St}{H:Hp}{s:Shared}{T:String}{x:V}{v:Value}(I:IR X gV σ H s)(r:bF x v)(ty:Jr X.K T x H) :
  s.TypeIs v T/\∀a,v=.ref a->∃ob,s.heap.get? a=some ob/\ob.dict=none:=by
 cases x with
 | str z =>
  obtain⟨t,rfl⟩:=r;cases(show T="str" from ty);exact⟨typeIs_str s z t,λ_ e=>nomatch e⟩
 | int i =>
  obtain⟨t,rfl⟩:=r;cases(show T="int" from ty);exact⟨typeIs_int s i t,λ_ e=>nomatch e⟩
 | ref p =>
  cases r;rcases ty with⟨rfl,xs,hq⟩|⟨rfl,o,hk,hc,hd⟩|⟨rfl,hk⟩|⟨rfl,S,n,hk⟩
  . obtain⟨its,_,pl,_⟩:=I.list hq;refine⟨pl.isList.typeIs,λa e=>?_⟩;cases e;obtain⟨o,n,e,c,hd,_⟩:=pl;exact⟨o,e,hd⟩
  . refine⟨⟨o,I.kIn p o hk,hc⟩,λa e=>?_⟩;cases e;exact⟨o,I.kIn _ o hk,hd⟩
  .
   have z:∃o,s.heap.get? p=some o/\o.ExactDict:=by
    rcases hk with⟨kvs,hk⟩|⟨kvs,hk⟩
    . obtain⟨_,_,_,_,o,_,_,e,ex,_⟩:=I.hok p _ hk;exact⟨o,e,ex⟩
    . obtain⟨_,_,_,_,o,_,_,e,ex,_⟩:=I.hok p _ hk;exact⟨o,e,ex⟩
   obtain⟨o,e,ex⟩:=z;refine⟨⟨o,e,ex.1⟩,λa e2=>?_⟩;cases e2;exact⟨o,e,ex.2.1⟩
  . obtain⟨o,_,_,_,e,ex,_⟩:=I.hok p _ hk;refine⟨⟨o,e,ex.1⟩,λa e2=>?_⟩;cases e2;exact⟨o,e,ex.2.1⟩
 |_=>exact False.elim ty
def HW(K:PySem.W.Frag)(T:String)(r:V->List V->Hp->VK->Prop)(to:TE):TE:=λσ H Q=>to σ H λx H1=>Jr K T x H1/\r x [] H1 Q
def Js(K:PySem.W.Frag)(T:String)(r:V->List V->Hp->VK->Prop)(to:TE)(t:TA):TE:=λσ H Q=>to σ H λx H1=>Jr K T x H1/\t σ H1 λxs H2=>r x xs H2 Q
variable{o e:Expr}{es:List Expr}{to:TE}{t:TA}{name:Str}{apos cpos:Pos}{T id:String}{r:V->List V->Hp->VK->Prop}
theorem Dv(pa:PlainAttrs T)(slot:Slot T name id) (hty:typeOf (.builtin id)=pure (.type "method_descriptor")) (hm:Jq X id r) (ho:PE X o to)
  (hbase:attributeBase o name X.env (eval o X.env)=eval o X.env:=by rfl) (hline:(apos.endLine == cpos.line)=true:=by rfl):PE X (.Call (.Attribute o name apos) [] [] cpos) (HW X.K T r to):=by
 intro gV s σ H Q I h;refine wpAny_Call_method0_late hbase hline (IT (ho gV s σ H _ I h) λv s1 ⟨x,H1,I1,r1,ty,q1⟩=>?_);obtain⟨h1,h2⟩:=Ak I1 r1 ty;exact⟨T,id,pa,slot,hty,h1,h2,Calls.callWith_builtin rfl (PySem.evalArgs_none (hm gV s1 σ H1 x [] v [] Q I1 r1 .nil q1))⟩
theorem A1(pa:PlainAttrs T)(slot:Slot T name id) (hty:typeOf (.builtin id)=pure (.type "method_descriptor")) (hm:Jq X id r) (ho:PE X o to) (ha:PA X (e::es) t)
  (hbase:attributeBase o name X.env (eval o X.env)=eval o X.env:=by rfl)
  (hfew:((backTo cpos (starEach (e::es) X.env)).all (λx=>!x.1) && (backToKw cpos (keywordEach [] X.env)).all (λx=>x.1.isSome)
   && decide ((e::es).length+([]:List Keyword).length+(if([]:List Keyword).isEmpty then 0 else 1)<30))=true:=by rfl)
  (hline:(apos.endLine == cpos.line)=true:=by rfl) (hs:starEach (e::es) X.env=(false,eval e X.env)::starEach es X.env:=by rfl) (hplain:(backTo cpos (starEach es X.env)).any (·.1)=false:=by rfl) :
  PE X (.Call (.Attribute o name apos) (e::es) [] cpos) (Js X.K T r to t):=by
 intro gV s σ H Q I h;refine wpAny_Call_method_late hbase hfew hline rfl (IT (ho gV s σ H _ I h) λv s1 ⟨x,H1,I1,r1,ty,q1⟩=>?_);obtain⟨h1,h2⟩:=Ak I1 r1 ty;refine⟨T,id,pa,slot,hty,h1,h2,?_⟩;have hA:=ha cpos gV s1 σ H1 _ I1 q1;rw[hs]at hA ⊢;refine Calls.callWith_builtin (by show(false ||(backTo cpos (starEach es X.env)).any (·.1))=false;rw[hplain]<;>rfl) (Calls.evalArgs_plain ?_);exact IT hA λus s2 ⟨vs,H2,I2,r2,q2⟩=>hm gV s2 σ H2 x vs v us Q I2 r1 r2 q2
/- xs.append(e),list.index on a module's tuple .. are Jq facts of 06m -/
end
def Jt(X:Cx)(id:String)(r:V->List V->Hp->VK->Prop):Prop :=
 ∀(gV:List (Addr×Obj))(s:Shared)(σ:St)(H:Hp)(x:V)(xs:List V)(v:Value)(us:List Value)(Q:VK),IR X gV σ H s->bF x v->bL xs us->r x xs H Q ->
  wpAny (model X.prog X.w) X.A (call (.builtin id) (v::us)) (EP X gV σ Q) X.xe s
theorem bL.one:∀{x:V}{us:List Value},bL [x] us->∃u,us=[u]/\bF x u
 |_,_,.cons r .nil=>⟨_,rfl,r⟩
theorem bL.eraseIdx:∀{xs:List V}{us:List Value}(i:Nat),bL xs us->bL (xs.eraseIdx i) (us.eraseIdx i)
 |_,_,_,.nil=>.nil
 |_,_,0,.cons _ t=>t
 |_,_,i+1,.cons r t=>.cons r (bL.eraseIdx i t)
theorem bL.rep{xs:List V}{us:List Value}(h:bL xs us):∀k:Nat,bL (List.replicate k xs).flatten (List.replicate k us).flatten
 |0=>.nil
 | k+1=>by rw[M3,M3,NO,NO];exact bL.append h (bL.rep h k)
theorem pO{α:Type}:∀(l:List α)(i:Nat),(l.eraseIdx i).length<=l.length
 |[],_=>ME _
 |_::_,0=>Nat.le_succ _
 |_::r,i+1=>Nat.succ_le_succ (pO r i)
theorem pP(its:List Value):∀(k:Nat)(acc:List Value),
  List.foldl (λx1 x2=>x1++x2) acc.toArray (List.replicate k its.toArray)=(acc++(List.replicate k its).flatten).toArray
 |0,acc=>by simp
 | k+1,acc=>by
  have e:acc.toArray++its.toArray=(acc++its).toArray:=by simp
  have e2:(acc++its)++(List.replicate k its).flatten=acc++(List.replicate (k+1) its).flatten:=by rw[M3,NO,MV]
  rw[<- e2,<- pP its k (acc++its),<- e,M3,List.foldl_cons]
section
variable{X:Cx}{gV:List (Addr×Obj)}{σ:St}{H:Hp}{s:Shared}{l:Addr}{xs ys:List V}
theorem IR.lset{its its':List Value}{n:Nat}{f:Array Value->Array Value}{t':Nat}(I:IR X gV σ H s)(hH:H l=some (.lst xs))
  (e:s.heap.get? l=some {cls:=.type "list",data:=.seq its.toArray n}) (hf:f its.toArray=its'.toArray) (hv:bL ys its') (hz:ys.length<=sizeLine) :
  IR X gV σ (IH H l (.lst ys)) {s with heap:=s.heap.update l (Obj.mapSeq f),toks:=t' }:=by
 have q:=PySem.IsL.update e f;rw[hf]at q;refine I.write (x:=l) (e:=l) (by rw[hH];exact trivial) (.inl rfl) (λb' u hb hu=>(M7 s.heap (Obj.mapSeq f) (NH hb)).trans hu) ⟨_,q⟩ ?_;exact⟨hz,its',_,hv,q⟩
theorem IR.lnew{its:List Value}{t':Nat}(I:IR X gV σ H s)(hv:bL ys its)(hz:ys.length<=sizeLine) :
  IR X gV σ (IH H s.heap.objs.size (.lst ys)) {s with heap:=s.heap.push {cls:=.type "list",data:=.seq its.toArray},toks:=t' } :=
 I.laid (λ_ _ q=>tu _ q) (ME _) ⟨hz,its,0,hv,M4 _ rfl⟩
theorem IR.fresh(I:IR X gV σ H s):H s.heap.objs.size=none:=I.hok.fresh (ME _)
theorem IR.lstM(I:IR X gV σ H s)(hH:H l=some (.lst xs)):xs.length<=sizeLine/\∃(its:List Value)(n:Nat),bL xs its/\xs.length=its.length/\s.heap.get? l=some {cls:=.type "list",data:=.seq its.toArray n}:=by obtain⟨z,its,n,r,e⟩:=I.hok l _ hH;exact⟨z,its,n,r,r.length,e⟩
theorem yy{n:Nat}(h:n<=sizeLine):Builtin.List.listTooLong n=false:=by unfold Builtin.List.listTooLong;exact MP xL
end
section
variable{X:Cx}
def A2:V->List V->Hp->VK->Prop:=λx vs H Q=>∃l xs y,x=.ref l/\vs=[y]/\H l=some (.lst xs)/\xs.length<sizeLine/\Q .non (IH H l (.lst (xs++[y])))
theorem pQ:Jt X "list.append" A2:=by intro gV s σ H x vs v us Q I rx rv h;obtain⟨l,xs,y,rfl,rfl,hH,hz,q⟩:=h;cases rx;obtain⟨u,rfl,ru⟩:=rv.one;obtain⟨z,its,n,r,hl,e⟩:=I.lstM hH;refine call_meets F.slot_list_append ⟨_,e,rfl⟩ F.entry_list_append (F.args_list_append_2 _ _) (PySem.list_append l its.toArray n u (by rw[MF];omega)) ⟨e,?_⟩;refine⟨.non,_,I.lset (its':=its++[u]) hH e v6 (r.append (.cons ru .nil)) ?_,rfl,q⟩;rw[MK,NQ];omega
def Dw:V->List V->Hp->VK->Prop:=λx vs H Q=>∃l xs i k y,x=.ref l/\vs=[.int i]/\H l=some (.lst xs)/\-(2^63)<=i/\i<2^63/\seqIndex? i xs.length=some k/\xs[k]?=some y/\Q y (IH H l (.lst (xs.eraseIdx k)))
theorem yz:Jt X "list.pop" Dw:=by
 intro gV s σ H x vs v us Q I rx rv h;obtain⟨l,xs,i,k,y,rfl,rfl,hH,h1,h2,hk,hy,q⟩:=h;cases rx;obtain⟨u,rfl,ru⟩:=rv.one;obtain⟨t,rfl⟩:=ru;obtain⟨z,its,n,r,hl,e⟩:=I.lstM hH;obtain⟨w,hw,rw'⟩:=r.get hy
 refine call_meets F.slot_list_pop ⟨_,e,rfl⟩ F.entry_list_pop (F.args_list_pop_2 _ _)
  (MeetsSeq.list_pop_at l its.toArray n i t k w (fitsIndex_both h1 h2) (by rw[MF,<- hl];exact hk) (by rw[<- Array.getElem?_toList];exact hw) (by rw[MF];omega)) ⟨e,?_⟩
 refine⟨y,_,I.lset (its':=its.eraseIdx k) hH e ?_ (r.eraseIdx k) ?_,rw',q⟩
 . show its.toArray.eraseIdxIfInBounds k=(its.eraseIdx k).toArray;rw[List.eraseIdxIfInBounds_toArray]
 . have:=pO xs k;omega
def HX:R2:=λx y H Q=>∃l k xs,x=.ref l/\y=.int k/\H l=some (.lst xs)/\-(2^63)<=k/\k<2^63/\xs.length*k.toNat<=sizeLine /\
 ∀p,H p=none->Q (.ref p) (IH H p (.lst (List.replicate k.toNat xs).flatten))
theorem A3{α:Type}(xs:List α)(k:Nat):(List.replicate k xs).flatten.length=k*xs.length:=by
 induction k with
 |zero=>simp
 |succ k ih=>rw[M3,NO,MK,ih,Nat.succ_mul,Nat.add_comm]
theorem Dx:Jc X (binaryOp .Mult) HX:=by
 intro gV s σ H x y v u Q I rx ry h;obtain⟨l,k,xs,rfl,rfl,hH,h1,h2,hz,q⟩:=h;cases rx;obtain⟨t,rfl⟩:=ry;obtain⟨z,its,n,r,hl,e⟩:=I.lstM hH;have kz:its.toArray.size*k.toNat<=sizeLine:=by rw[MF,<- hl];exact hz
 have hcap:¬its.toArray.size*k.toNat > (2^63-1) / 8:=by
  have:(sizeLine:Nat)<=(2^63-1) / 8:=by decide
  omega
 have hfit:¬(!Builtin.List.listFitsIndex k)=true:=by rw[fitsIndex_both h1 h2];exact M6
 have hlong:¬Builtin.List.listTooLong (its.toArray.size*k.toNat)=true:=by rw[yy kz];exact M6
 have hnew:List.foldl (λx1 x2=>x1++x2) #[] (List.replicate (if its.toArray.isEmpty=true then 0 else k.toNat) its.toArray)=(List.replicate k.toNat its).flatten.toArray:=by
  have f0:∀m:Nat,List.foldl (λx1 x2=>x1++x2) #[] (List.replicate m its.toArray)=(List.replicate m its).flatten.toArray:=λm=>by have:=pP its m [];rw[N6]at this;exact this
  rw[f0]
  cases its with
  |nil=>simp
  |cons a r'=>rw[if_neg (by simp)]
 refine wpAny_binaryOp_repeat_ref (T:="list") (U:="int") x_ ⟨_,e,rfl⟩ (λs'=>typeIs_int s' k t) noFill_list_mul F.fills_int_mul F.slot_int_rmul repeat_list F.slot_int_index.lookup
  (call_meets F.slot_int_rmul (typeIs_int s k t) F.entry_int_rmul (F.args_int_rmul_2 _ _) (int___rmul___int_list k t l its.toArray n)
   ⟨e,rfl,⟨_,e,rfl⟩,call_meets F.slot_list_mul ⟨_,e,rfl⟩ F.entry_list_mul (F.args_list_mul_2 _ _) (AutoListH.list___mul___list_int_3 l its.toArray n k t hfit hcap hlong) ⟨e,?_⟩⟩)
 rw[hnew];exact⟨.ref _,_,I.lnew (t':=s.toks) (r.rep k.toNat) (by rw[A3,Nat.mul_comm];exact hz),rfl,q _ I.fresh⟩
end
end L2
namespace Att
open PySem PySem.W PySem.Calls PyProof.Rows
theorem l5{P:Params}{h:Heap}:∀(ns:List Int)(vs:List Value),WellAll P h vs (ns.map WData.int)->IntsAre vs ns:=by
 intro ns
 induction ns with
 | nil =>
  intro vs w;rw[List.map_nil]at w;cases w;exact .nil
 | cons n ns ih =>
  intro vs w;rw[MN]at w
  cases w with
  | cons a b =>
   cases a;exact .cons _ _ (ih _ b)
theorem vS{l:OpenLaw}{n:Nat}(hn:l.most=some n){P:Params}{h:Heap}{args:List WData}{vals:List Value}
  (hpre:l.row.toRowW.claim.pre args=true) (hwl:WellAll P h vals args) :
  ∃ a vs ns,vals=[Value.ref a]/\args=[WData.list (ns.map WData.int)]/\h.get? a=some {cls:=.type "list",data:=.seq vs.toArray}/\IntsAre vs ns/\ns.length<=n:=by
 have hsh:WShape.hasAll [] args [.list .int]=true:=(pre_splitW hpre).1;have hc:l.pre.holds [] {args:=args}=true:=(pre_splitW hpre).2;obtain⟨d,r,rfl,h1,h2⟩:=hasAllW_cons hsh;obtain rfl:=hasAllW_nil h2;obtain⟨xs,rfl,h3⟩:=hasW_list h1;obtain⟨ns,rfl⟩:=items_int h3
 have kz:ns.length<=n:=by
  unfold OpenLaw.pre at hc;have h4:(WTm.not (.lt (.lit (.int (n:Int))) (.len (.arg 0)))).holds [] {args:=[.list (ns.map .int)] }=true:=by have h4:=(holds_andW hc).1;rw[hn]at h4;exact h4
  have h5:=condW_of h4 (w_not (w_lt w_lit (w_len_list (w_arg rfl))));rw[MD]at h5;refine Nat.le_of_not_lt λq=>?_;have q':(n:Int)<((ns.length:Nat):Int):=by omega
  first
   |(rw[Nn q']at h5;exact absurd h5 x_)
   |(simp at h5;omega)
 cases hwl with
 | cons w1 w2 =>
  cases w2
  cases w1 with
  |list ho hall=>exact⟨_,_,ns,rfl,rfl,ho,l5 ns _ hall,kz⟩
theorem vT(l:OpenLaw)(args:List WData):l.row.toRowW.claim.post args (.bool true) args=true :=
 postW_of (r:=l.row.toRowW) (X:=(true == true))
  (show WShape.has [] (.bool true) .bool=true by first|rfl|decide|simp[WShape.has,WShape.arms,WShape.armsAll])
  (show(WTm.eq .res (.lit (.bool true))).value [] {args:=args,res:=some (.bool true),after:=args}=some (.bool (true == true))from w_eq_bool (w_res rfl) w_lit) rfl
theorem attach_call{l:OpenLaw}{n:Nat}{q:Program}{loose:List Str}{XP:(Str->Option Value)->Heap->Prop}{YP:World->Heap->Prop}{d:DefRec}
  (hn:l.most=some n) (hdf:d.params.defaults=[])
  (call:∀(w:World)(s₀ s₁:Shared)(mg mb:Str->Option Value)(fa:Addr)(o:Obj)(pm cd doc:Value)(a:Addr)(vs:List Value)(ns:List Int),
   Ground q loose [] XP w s₀ mg mb s₁.heap->YP w s₁.heap ->
   s₁.heap.get? fa=some o->o.data=.func (docDef d.name d.params d.body d.scope pm cd doc)->s₁.heap.CodeRec cd d.name->mg d.name=some (.ref fa) ->
   s₁.heap.get? a=some {cls:=.type "list",data:=.seq vs.toArray}->IntsAre vs ns->ns.length<=n->s₁.gens=#[] ->
   codeAny (model l.prog w) callerA (.call (.ref fa) ⟨[.ref a],[]⟩) (λr s'=>r=.ok (.ret (.bool true))/\OldK s₁.heap s'.heap/\s'.os=s₁.os/\AllBare s'.gens) s₁) :
  WalkO q loose XP YP l.row.toRowW d [] (λf vs=>PySem.call f vs):=by
 intro w s₀ s₁ mg mb G Y fa o pm cd doc dV kV ho hd hcd hD hmg hg args vals as hpre hlay hrd hwl hlo;obtain rfl:dV=.none:=Dflts.none hD hdf;obtain rfl:kV=.none:=Dflts.noKw hD;obtain⟨a,vs,ns,rfl,rfl,hobj,hints,kz⟩:=vS hn hpre hwl;refine enter_call (codeAny_mono (call w s₀ s₁ mg mb fa o pm cd doc a vs ns G Y ho (fd_plain hd) hcd hmg hobj hints kz hg) λr s' hq=>?_);obtain⟨rfl,h2,h3,h4⟩:=hq;exact⟨.inl ⟨.bool true,.bool true,[],rfl,λ_=>rfl,.bool true,vT l _,λ_=>⟨List.Pairwise.nil,λ_ hm=>(nomatch hm)⟩⟩,h2,h3,h4⟩
section
noncomputable def G9(h:Heap)(L d:Addr):List (Addr×Obj):=(List.range h.objs.size).filterMap λa=>if a=L∨a=d then none else(h.get? a).map λo=>(a,o)
end
end Att
namespace L2
open PySem PySem.Spec PyProof.Rows
theorem pR:∀{vs:List Value}{ns:List Int},IntsAre vs ns->bL (ns.map V.int) vs
 |_,_,.nil=>.nil
 |_,_,.cons n t h=>.cons ⟨t,rfl⟩ (pR h)
def Fy(H:Hp):Prop:=∀b,H b=none∨(∃o xs,H b=some (.frz o (.lst xs)))∨∃q,H b=some (.tbl q)
noncomputable def c6(K:PySem.W.Frag):List (Addr×Str):=lamNames.filterMap λx=>(PySem.W.tabIn K x).map λp=>(p.2,m6 x)
noncomputable def tabsOk(K:PySem.W.Frag):Bool:=decide ((c6 K).map (·.1)).Nodup && (c6 K).all λp=>(K.lookup p.1).isNone
theorem vU{K:PySem.W.Frag}{P:Addr}{q:Str}(h:(P,q)∈c6 K):∃x∈lamNames,∃c,PySem.W.tabIn K x=some (c,P)/\q=m6 x:=by
 obtain⟨x,hx,e⟩:=List.mem_filterMap.mp h
 cases z:PySem.W.tabIn K x with
 |none=>rw[z]at e;cases e
 |some p=>rw[z]at e;cases e;exact⟨x,hx,p.1,z,rfl⟩
theorem iQ{α β:Type}[BEq α][LawfulBEq α]:∀{l:List (α×β)}{a:α}{b:β},l.lookup a=some b->(a,b)∈l
 |[],_,_,h=>nomatch h
 | (x,y)::r,a,b,h=>by
  rw[MU]at h
  cases hb:a == x with
  |true=>rw[hb]at h;cases h;rw[eq_of_beq hb];exact .head _
  |false=>rw[hb]at h;exact .tail _ (iQ h)
theorem g7{α β:Type}[BEq α][LawfulBEq α]:∀{l:List (α×β)}{a:α}{b:β},(l.map (·.1)).Nodup->(a,b)∈l->l.lookup a=some b
 |[],_,_,_,h=>nomatch h
 | (x,y)::r,a,b,nd,h=>by
  rw[MN,MQ]at nd;rw[MU];rcases MC.mp h with e|h
  . cases e;simp
  . have:a≠x:=λz=>nd.1 (z ▸ List.mem_map_of_mem (f:=(·.1)) h);rw[show(a == x)=false from beq_false_of_ne this];exact g7 nd.2 h
theorem uF{K:PySem.W.Frag}{x:Str}{c P:Addr}(h:PySem.W.tabIn K x=some (c,P)):K.lookup c≠none:=by
 unfold PySem.W.tabIn at h;split at h
 .
  split at h
  .
   split at h
   .
    split at h
    .
     rename_i hco;split at h
     . cases h;intro z;rw[hco]at z;cases z
     . cases h
    . cases h
   . cases h
  . cases h
 . cases h
theorem yA{P:Program}{w:World}{K:PySem.W.Frag}{mg mb:Str->Option Value}{CX:Jj}{k:Nat}{fa a:Addr}{fd:FuncData}{x:Str}{sp:Sp}{s₁:Shared}{vs:List Value}{ns:List Int}
  (KX:K.In s₁.heap) (hns:s₁.heap.Ns mainGlobals mg) (hb:s₁.heap.Ns builtinsNs mb) (hbb:∀ x:Str,x≠"__name__"->mb x=bootBuiltins x) (hlim:s₁.heap.NoLimit) (hsys:∃ mm,s₁.heap.Ns sysModules mm) (hbm:C7 mg s₁.heap) (hto:tabsOk K=true)
  (htb:∀x∈lamNames,∀c P,PySem.W.tabIn K x=some (c,P)->PySem.W.CodeHd s₁.heap c P/\s₁.heap.get? P=some (PySem.W.tabObj #[])) (hg:s₁.gens=#[])
  (ha:s₁.heap.get? a=some {cls:=.type "list",data:=.seq vs.toArray}) (hi:IntsAre vs ns) (hl:ns.length<=sizeLine) (hr:fw k callerA)
  (F:∀base:Heap,K.In base->base.Ns mainGlobals mg->FnOk P w K mg base CX k fa fd [x] sp) (hbind:∀(s:Shared)(u:Value),BindsTo s fd ⟨[u],[]⟩ [(x,u)])
  (hsp:∀H:Hp,Fy H->IW K H a (ns.map V.int)->sp [.ref a] H (λv _=>v=.bl true) λ_ _ _=>False)
  (hCX:∀H e s',CX [] H s₁ (λ_ _ _=>False) e s'->False) :
  codeAny (model P w) callerA (.call (.ref fa) ⟨[.ref a],[]⟩) (λr s'=>r=.ok (.ret (.bool true))/\OldK s₁.heap s'.heap/\s'.os=s₁.os/\AllBare s'.gens) s₁:=by
 have rv:=pR hi;have lenV:=hi.length;obtain⟨nd,kn⟩:=NM.mp hto;have nd:=Oa nd;have tabAt:∀{b:Addr}{q:Str},(c6 K).lookup b=some q->PySem.isCodeTable s₁.heap b/\s₁.heap.get? b=some (PySem.W.tabObj #[])/\K.lookup b=none:=λ{b q} e=>by have hm:(b,q)∈c6 K:=iQ e;obtain⟨x,hx,c,e1,_⟩:=vU hm;obtain⟨h1,h2⟩:=htb x hx c b e1;refine⟨(h1.tab h2).isCodeTable,h2,?_⟩;have:=Nq.mp kn (b,q) hm;simpa using this
 have core:∀H:Hp,Fy H->IW K H a (ns.map V.int)->II P w H s₁.heap->(∀b,H b≠none->b=a∨∃q,H b=some (.tbl q)/\(c6 K).lookup b=some q)->(∀b,H b≠none->K.lookup b=none)->IL K H ->
   codeAny (model P w) callerA (.call (.ref fa) ⟨[.ref a],[]⟩) (λr s'=>r=.ok (.ret (.bool true))/\OldK s₁.heap s'.heap/\s'.os=s₁.os/\AllBare s'.gens) s₁:=by
  intro H hO hS hok hA hK hT;have base_of:∀{b:Addr}{o:Obj},s₁.heap.get? b=some o->H b=none->(ym s₁.heap H).get? b=some o:=λe n=>yn e n
  have noB:∀{b:Addr}{o:Obj},s₁.heap.get? b=some o->(∀us n,o.data≠.seq us n)->(∀us,o.data≠.fields us)->H b=none:=λ{b o} e d1 d2=>by
   cases q:H b with
   |none=>rfl
   | some u =>
    rcases hA b (by rw[q];simp)with e' | ⟨z,_,e'⟩
    . subst e';rw[ha]at e;cases e;exact absurd rfl (d1 _ _)
    . rw[(tabAt e').2.1]at e;cases e;exact absurd rfl (d2 _)
  have noA:∀{b:Addr}{o:Obj}{es:Array DictEntry}{ep:Nat},s₁.heap.get? b=some o->o.data=.dict es ep->H b=none:=λ{b o es ep} e d =>
   noB e (λus n z=>by rw[d]at z;cases z) λus z=>by rw[d]at z;cases z
  have nsK:∀{b:Addr}{m:Str->Option Value},s₁.heap.Ns b m->(ym s₁.heap H).Ns b m:=λ{b m} ⟨o,es,ep,e,d,r⟩=>⟨o,es,ep,base_of e (noA e d),d,r⟩
  have hKb:K.In (ym s₁.heap H):=λb o e=>base_of (KX b o e) (by
   cases q:H b with
   |none=>rfl
   |some u=>rw[hK b (by rw[q];simp)]at e;cases e)
  have hM:Mod K mg (ym s₁.heap H):=⟨hKb,nsK hns,⟨mb,nsK hb,hbb⟩,let ⟨mc,h1,h2⟩:=hlim;⟨mc,nsK h1,h2⟩,let ⟨mm,h1⟩:=hsys;⟨mm,nsK h1⟩,by
   obtain⟨bm,ob,b1,b2,b3,b4,b5,b6⟩:=hbm
   exact⟨bm,ob,b1,b2,base_of b3 (noB b3 (λus n z=>by rw[b6]at z;cases z) λus z=>by rw[b6]at z;cases z),b4,b5,b6⟩,λx hx c P e=>by
   obtain⟨⟨o,vs,file,tf,flags,tg,Ju,text,tt,e1,r⟩,_⟩:=htb x hx c P e
   exact⟨o,vs,file,tf,flags,tg,Ju,text,tt,base_of e1 (by
    cases q:H c with
    |none=>rfl
    |some u=>exact absurd (hK c (by rw[q];simp)) (uF e)),r⟩⟩
  have e0:vM P w K mg (ym s₁.heap H) callerA [] s₁ H:=⟨rfl,hM,λb o e=>AJ e,Nat.le_of_eq (vw _ _),trivial,λb hb=>absurd (show b∈([]:List Addr)from hb) v6,hok,.of_eq hg,hT⟩;refine codeAny_mono ((F _ hKb (nsK hns)).run callerA [] s₁ H ⟨[.ref a],[]⟩ [.ref a] [.ref a] _ _ hr e0 (hbind s₁ (.ref a)) (.cons rfl .nil) (hsp H hO hS)) λr s' h=>?_
  cases r with
  |error e=>exact(hCX H e s' h).elim
  | ok fl =>
   cases fl with
   |next=>exact False.elim h
   |brk=>exact False.elim h
   |cont=>exact False.elim h
   | ret u =>
    obtain⟨v,H',os,bare,un,hok',r',q⟩:=h;have q':v=.bl true:=q;subst q';obtain rfl:u=Value.bool true:=r'
    have IV:∀b o,s₁.heap.get? b=some o->s'.heap.get? b=some o∨(PySem.isCodeTable s₁.heap b/\o=PySem.W.tabObj #[]/\∃ps,s'.heap.get? b=some (PySem.W.tabObj ps)):=λb o e=>by
     cases q:H b with
     |none=>exact .inl (un.keep b o e q (by intro z;exact absurd (show b∈([]:List Addr)from z) v6) v6)
     | some u =>
      rcases hO b with z|⟨ob,xs,z⟩|⟨t,z⟩
      . rw[q]at z;cases z
      . have z2:=un.frzs b ob _ z;obtain⟨e1,_⟩:=hok b _ z;obtain⟨e2,_⟩:=hok' b _ z2;rw[e]at e1;cases e1;exact .inl e2
      .
       rcases hA b (by rw[q];simp)with e' | ⟨t2,_,e'⟩
       . subst e';obtain⟨ps,e1,_⟩:=hok b _ z;rw[ha]at e1;cases e1
       . obtain⟨ps,e2,_⟩:=hok' b _ (un.tbls b _ z);obtain⟨t1,t2,_⟩:=tabAt e';rw[e]at t2;cases t2;exact .inr ⟨t1,rfl,ps,e2⟩
    refine⟨rfl,⟨λb o e=>?_,λb o e=>?_⟩,os,bare⟩
    .
     rcases IV b o e with z|⟨t,rfl,ps,z⟩
     . exact .inl z
     . exact .inr (.inl ⟨t,rfl,#[],ps,rfl,by rw[Array.empty_append];exact z⟩)
    .
     rcases IV b o e with z|⟨t,_,ps,z⟩
     . exact⟨o,z⟩
     . exact⟨_,z⟩
 have tbsOf:∀{H:Hp},(∀b q,(c6 K).lookup b=some q->H b=some (.tbl q))->IL K H:=λ{H} h x hx c P e=>h P _ (g7 nd (List.mem_filterMap.mpr ⟨x,hx,by rw[e];rfl⟩));have okT:∀{H:Hp}{b:Addr}{q:Str},(c6 K).lookup b=some q->cg P w H s₁.heap b (.tbl q):=λ{H b q} e=>⟨#[],(tabAt e).2.1,trivial,λpos cv z=>by simp[codeAmong]at z⟩;have na:∀q,(c6 K).lookup a≠some q:=λq z=>by have:=(tabAt z).2.1;rw[ha]at this;cases this
 cases hk:K.lookup a with
 | some o =>
  have e:=KX a o hk;rw[ha]at e;cases e;refine core (λb=>((c6 K).lookup b).map .tbl) (λb=>?_) (.inr ⟨_,vs.toArray,_,hk,rfl,rfl,rfl,by rw[MF,lenV];exact hl,by simpa using rv⟩) (λb u z=>?_) (λb z=>?_) (λb z=>?_) (tbsOf λb q e=>by show Option.map _ _=_;rw[e];rfl)
  .
   show Option.map HO.tbl ((c6 K).lookup b)=none∨_
   cases q:(c6 K).lookup b with
   |none=>exact .inl rfl
   |some t=>exact .inr (.inr ⟨t,by show Option.map _ _=_;rw[q];rfl⟩)
  .
   have z':Option.map HO.tbl ((c6 K).lookup b)=some u:=z
   cases q:(c6 K).lookup b with
   |none=>rw[q]at z';cases z'
   |some t=>rw[q]at z';cases z';exact okT q
  .
   have z':Option.map HO.tbl ((c6 K).lookup b)≠none:=z
   cases q:(c6 K).lookup b with
   |none=>rw[q]at z';exact absurd rfl z'
   |some t=>exact .inr ⟨t,rfl,rfl⟩
  .
   have z':Option.map HO.tbl ((c6 K).lookup b)≠none:=z
   cases q:(c6 K).lookup b with
   |none=>rw[q]at z';exact absurd rfl z'
   |some t=>exact(tabAt q).2.2
 | none =>
  have at_a:∀ b,(if b=a then some (HO.frz {cls:=.type "list",data:=.seq vs.toArray} (.lst (ns.map V.int)))else((c6 K).lookup b).map .tbl)≠none->b=a∨∃ q,(c6 K).lookup b=some q:=λb z=>by
   by_cases hb:b=a
   . exact .inl hb
   .
    rw[if_neg hb]at z
    cases q:(c6 K).lookup b with
    |none=>rw[q]at z;exact absurd rfl z
    |some t=>exact .inr ⟨t,rfl⟩
  have tabA:∀ b q,(c6 K).lookup b=some q->(if b=a then some (HO.frz {cls:=.type "list",data:=.seq vs.toArray} (.lst (ns.map V.int)))else((c6 K).lookup b).map .tbl)=some (.tbl q):=λb q e=>by rw[if_neg (λ(z:b=a)=>na q (by rw[<- z];exact e)),e];rfl
  refine core (λb=>if b=a then some (.frz {cls:=.type "list",data:=.seq vs.toArray} (.lst (ns.map V.int)))else((c6 K).lookup b).map .tbl) (λb=>?_) (.inl (.inr ⟨{cls:=.type "list",data:=.seq vs.toArray},if_pos rfl⟩)) (λb u z=>?_) (λb z=>?_) (λb z=>?_) (tbsOf λb q e=>tabA b q e)
  .
   by_cases hb:b=a
   . exact .inr (.inl ⟨_,_,if_pos hb⟩)
   .
    cases q:(c6 K).lookup b with
    |none=>exact .inl (by show ite _ _ _=_;rw[if_neg hb,q];rfl)
    |some t=>exact .inr (.inr ⟨t,tabA b t q⟩)
  .
   by_cases hb:b=a
   . have z':=(if_pos hb).symm.trans z;cases z';subst hb;exact⟨ha,by rw[MD];exact hl,vs,_,rv,ha⟩
   .
    have z':=(if_neg hb).symm.trans z
    cases q:(c6 K).lookup b with
    |none=>rw[q]at z';cases z'
    |some t=>rw[q]at z';cases z';exact okT q
  .
   rcases at_a b z with e|⟨q,e⟩
   . exact .inl e
   . exact .inr ⟨q,tabA b q e,e⟩
  .
   rcases at_a b z with e|⟨q,e⟩
   . rw[e];exact hk
   . exact(tabAt e).2.2
theorem walk_of{l:PySem.W.OpenLaw}{n k:Nat}{q:Program}{loose:List Str}{XP:(Str->Option Value)->Heap->Prop}{YP:World->Heap->Prop}{d:DefRec}{K:Params->PySem.W.Frag}{CX:World->Jj}{sp:World->Sp}{x:Str}
  (hn:l.most=some n) (hq:importsNone q=true) (hn2:n<=sizeLine) (hdf:d.params.defaults=[]) (hr:fw k callerA)
  (hY:∀(w:World)(h:Heap),YP w h->(K w.params).In h) (hto:∀w:World,tabsOk (K w.params)=true) (hrc:∀(w:World),∀x∈lamNames,PySem.W.tabIn (K w.params) x=none∨((recsOf q).find? λe=>e.name == x).isSome=true)
  (F:∀(w:World)(mg:Str->Option Value)(fa:Addr)(h:Heap),(K w.params).In h->h.Ns mainGlobals mg->mg d.name=some (.ref fa) ->
   ∃fd:FuncData,(∀(s:Shared)(u:Value),BindsTo s fd ⟨[u],[]⟩ [(x,u)]) /\
    ∀base:Heap,(K w.params).In base->base.Ns mainGlobals mg->FnOk l.prog w (K w.params) mg base (CX w) k fa fd [x] (sp w))
  (hsp:∀(w:World)(H:Hp)(a:Addr)(ns:List Int),ns.length<=n->Fy H->IW (K w.params) H a (ns.map V.int)->sp w [.ref a] H (λv _=>v=.bl true) λ_ _ _=>False)
  (hCX:∀(w:World)(H:Hp)(s:Shared)(e:Value)(s':Shared),CX w [] H s (λ_ _ _=>False) e s'->False) :
  PySem.W.WalkO q loose XP YP l.row.toRowW d [] (λf vs=>PySem.call f vs):=by
 refine Att.attach_call hn hdf λw s₀ s₁ mg mb fa o pm cd doc a vs ns G Y ho hd hcd hmg hobj hints kz hg=>?_;have KX:=hY w _ Y;obtain⟨fd,hb,hF⟩:=F w mg fa _ KX G.T.g hmg
 exact yA KX G.T.g G.T.b G.T.builtins G.T.nolimit (let ⟨mm,h1,_⟩:=(G.T.seer hq).mods;⟨mm,h1⟩) (let ⟨bm,ob,b1,b2,b3,b4,b5,b6⟩:=G.T.bmain;⟨bm,ob,b1,b2,b3,b4,b5,b6⟩) (hto w) (λy hy c P e=>by
  rcases hrc w y hy with z|z
  . rw[z]at e;cases e
  .
   obtain⟨d',hd'⟩:=Option.isSome_iff_exists.mp z
   exact PySem.W.tab_of G.T KX hd' e) hg hobj hints (MH kz hn2) hr hF hb (λH hO hS=>hsp w H a ns kz hO hS) λH e s'=>hCX w H s₁ e s'
noncomputable def g8(s:Stmt):Arguments:=match s with
 |.FunctionDef _ a _ _ _ _ _ _ _ _=>a
 |_=>{posonlyargs:=[],args:=[],vararg:=none,kwonlyargs:=[],kw_defaults:=[],kwarg:=none,defaults:=[] }
noncomputable def cj(s:Stmt):List Stmt:=match s with
 |.FunctionDef _ _ b _ _ _ _ _ _ _=>b
 |_=>[]
noncomputable def aB(s:Stmt):Scope:=match s with
 |.FunctionDef _ _ _ _ _ _ sc _ _ _=>sc
 |_=>{kind:=.function,names:=[],isGenerator:=false,isCoroutine:=false}
noncomputable abbrev CX0:Jj:=λ_ _ _ _ _ _=>False
noncomputable abbrev E0:XK:=λ_ _ _=>False
theorem A4{X:Cx}:sT CX0 X E0:=λ_ _ _ _ _ _ _ h=>h.elim
structure Jv (K:PySem.W.Frag) (x qual:Str) (st:Stmt) (f:Addr) (fd:FuncData):Prop where
 ex:∃(oc:Value)(od:Option Addr)(kV doc pm:Value)(an:Option Addr)(cdv ct:Value)(osl:Array (Option Value)),
  fd=PySem.W.fnOf x qual (g8 st) (cj st) (aB st) .none kV doc pm an cdv ct/\K.lookup f=some ⟨oc,od,.func fd,osl⟩/\PySem.W.codeIn K cdv qual=true
 kp:PySem.W.keepIn K (.ref f)=true
section
variable{P:Program}{w:World}{K:PySem.W.Frag}{mg:Str->Option Value}{base:Heap}
theorem Jv.ok{x qual:Str}{st:Stmt}{f:Addr}{fd:FuncData}{N ps:List Str}{k:Nat}{sp:Sp}(F:Jv K x qual st f fd)(S:aO N ps (aB st))(len:∀vs H Q E,sp vs H Q E->vs.length=ps.length)
  (hbody:∀(cdv:Value)(A:Around)(outer:List Env)(s:Shared)(H:Hp)(vs:List V)(Q:VK)(E:XK),fw k (A.deeper (envOfC qual (aB st) s.heap.objs.size f cdv))->sp vs H Q E ->
   ∃t,IS (yi CX0 P w K mg base N qual (aB st) f cdv A outer s H E).nox (cj st) t/\t {nx:=λ_ H'=>Q .non H',rt:=Q} (kC N vs) H):FnOk P w K mg base CX0 (k+1) f fd ps sp:=by
 obtain⟨oc,od,kV,doc,pm,an,cdv,ct,osl,rfl,lk,hcd⟩:=F.ex;refine AW lk hcd S len λA outer s H vs Q E hr hsp=>?_;obtain⟨t,h,q⟩:=hbody cdv A outer s H vs Q E hr hsp;exact⟨t,h.nox,q⟩
theorem Jv.binds{x qual:Str}{st:Stmt}{f:Addr}{fd:FuncData}{ps:List Str}(F:Jv K x qual st f fd)
  (h:∀(kV doc pm:Value)(an:Option Addr)(cdv ct:Value)(us:List Value),us.length=ps.length->bindArgs (PySem.W.fnOf x qual (g8 st) (cj st) (aB st) .none kV doc pm an cdv ct) ⟨us,[]⟩=pure (ps.zip us)):jE K fd ps []:=by
 obtain⟨oc,od,kV,doc,pm,an,cdv,ct,osl,rfl,lk,hcd⟩:=F.ex;exact .all (h kV doc pm an cdv ct)
theorem nL{x qual:Str}{st:Stmt}{f:Addr}{oc:Value}{od an:Option Addr}{osl:Array (Option Value)}{kV doc pm cdv ct:Value}(l:K.lookup f=some ⟨oc,od,.func (PySem.W.fnOf x qual (g8 st) (cj st) (aB st) .none kV doc pm an cdv ct),osl⟩)
  (c:PySem.W.codeIn K cdv qual=true) (k:PySem.W.keepIn K (.ref f)=true):Jv K x qual st f (PySem.W.fnOf x qual (g8 st) (cj st) (aB st) .none kV doc pm an cdv ct):=⟨⟨oc,od,kV,doc,pm,an,cdv,ct,osl,rfl,l,c⟩,k⟩
end
section
variable{X:Cx}
theorem pv(i:Nat){x:Str}{pos:Pos}(hN:X.N[i]?=some x:=by rfl)(hv:IP X.env.scope x:=by first | exact Or.inl rfl | exact Or.inr (Or.inl rfl) | exact Or.inr (Or.inr rfl)) (hd:(x == ("__debug__" : Str))=false:=by decide)
  (hcd:(x == ("__classdict__" : Str))=false:=by decide):PE X (.Name x pos) (yo i):=cm hN hv hd hcd
end
def Ha(H H':Hp):Prop:=∀b o,H b=some o->H' b=some o
theorem Ha.free{H H':Hp}(e:Ha H H'){l:Addr}(h:H' l=Option.none):H l=Option.none:=by
 cases q:H l with
 |none=>rfl
 | some o =>
  rw[e l o q]at h;cases h
end L2
set_option maxHeartbeats 0
namespace L2
open PySem PySem.Spec
open Sem (wp)
theorem iD:Slot "function" "__getattribute__" "object.__getattribute__" :=
 .of (owner:="object") (n:="__getattribute__") (by rw[typeLookup_type,builtinLookup_eq_fast]; kernel_rfl) y_ y_ y_
  (by first|exact .inl y_|exact .inr y_) (by rw[isSubtype_type];kernel_rfl)
theorem rn:entryFor table "object.__getattribute__"=some Builtin.«object.__getattribute__»:=by
 first | exact F.entry_object_getattribute | exact entryFor_alias (id':="object.__getattribute__") z_ (by first | rfl | decide +kernel) y_ z_ | kernel_rfl
theorem uG(a b:Value):argsOk "object.__getattribute__" ⟨[a,b],[]⟩:=by
 first|exact F.args_object_getattribute_2 a b|(unfold argsOk;kernel_rfl)
theorem rq:typeLookup (.type "function") "__class__"=pure (some (.builtin "object.__class__")):=by rw[typeLookup_type,builtinLookup_eq_fast]; kernel_rfl
theorem jF:isSubtype (.type "function") (.type (".".intercalate ("object.__class__".cutAt '.').dropLast))=pure true:=by rw[F.owner_object_class,isSubtype_type];kernel_rfl
section
variable{prog:Program}{w:World}{A:Around}{E:Value->Shared->Prop}{h:Heap}{g:Array GenState}{d:Drawn}{t:Nat}{os:OsState}{a:Addr}{o:Obj}
theorem pS{R:Result->Shared->Prop}(hx:h.get? a=some o) (hc:o.cls=.type "function") (hq:R (.ok (.ret (.type "function"))) ⟨h,g,d,t,os⟩) :
  codeAny (model prog w) A (.call (.builtin "getset_descriptor.__get__") ⟨[.builtin "object.__class__",.ref a,.type "function"],[]⟩) R ⟨h,g,d,t,os⟩:=by
 have hT:(⟨h,g,d,t,os⟩:Shared).TypeIs (.ref a) "function":=⟨_,hx,hc⟩;have hT5:(⟨h,g,d,t,os⟩:Shared).TypeIs (.builtin "object.__class__") "getset_descriptor":=F.typeOf_object_class;have f8:=jF;refine Od F.slot_gs_get.plain F.entry_gs_get (F.slot_gs_get.check _ _ _ _ _ _ _ _ hT5 (F.args_gs_get _ _ _) ?_)
 repeat (any_goals (first|assumption|wp_step))
 refine⟨Code.quiet_builtin _ y_,codeAny_builtin F.entry_object_class ?_⟩
 repeat (any_goals (first|assumption|wp_step))
theorem m7{tk:Tok}{Q:PySem.Fin->Shared->Prop}(hx:h.get? a=some o) (hc:o.cls=.type "function") (hq:Q (.done (.ret (.type "function"))) ⟨h,g,d,t,os⟩) :
  wpAny (model prog w) A (Builtin.«object.__getattribute__» ⟨[.ref a,.str "__class__" tk],[]⟩) Q E ⟨h,g,d,t,os⟩:=by
 have hT:(⟨h,g,d,t,os⟩:Shared).TypeIs (.ref a) "function":=⟨_,hx,hc⟩;have hT5:(⟨h,g,d,t,os⟩:Shared).TypeIs (.builtin "object.__class__") "getset_descriptor":=F.typeOf_object_class;have f4:=rq;have f5:=F.typeOf_object_class;have f6:=F.slot_gs_get.lookup;have f7:=F.slot_gs_set.lookup
 repeat (any_goals (first|assumption|wp_step))
 refine pS hx hc ?_
 repeat (any_goals (first|assumption|wp_step))
theorem oE{tk:Tok}{R:Result->Shared->Prop}(hx:h.get? a=some o) (hc:o.cls=.type "function") (hq:R (.ok (.ret (.type "function"))) ⟨h,g,d,t,os⟩) :
  codeAny (model prog w) A (.call (.builtin "object.__getattribute__") ⟨[.ref a,.str "__class__" tk],[]⟩) R ⟨h,g,d,t,os⟩ :=
 Od iD.plain rn (iD.check _ _ _ _ _ _ _ _ (show(⟨h,g,d,t,os⟩:Shared).TypeIs (.ref a) "function" from⟨_,hx,hc⟩) (uG _ _) (m7 hx hc hq))
theorem rC{tk:Tok}{Q:Value->Shared->Prop}(hx:h.get? a=some o) (hc:o.cls=.type "function") (hq:Q (.type "function") ⟨h,g,d,t,os⟩):wpAny (model prog w) A (getAttrBy (.ref a) (.str "__class__" tk) false) Q E ⟨h,g,d,t,os⟩:=by
 have hT:(⟨h,g,d,t,os⟩:Shared).TypeIs (.ref a) "function":=⟨_,hx,hc⟩;have f2:=iD.lookup;have f3:=iD.bind (.ref a)
 repeat (any_goals (first|assumption|wp_step))
 refine oE hx hc ?_
 repeat (any_goals (first|assumption|wp_step))
theorem oF{Q:Option Value->Shared->Prop}(hx:h.get? a=some o) (hc:o.cls=.type "function") (hq:Q (some (.type "function")) ⟨h,g,d,t+1,os⟩):wpAny (model prog w) A (getAttr? (.ref a) "__class__") Q E ⟨h,g,d,t,os⟩:=by
 unfold getAttr? getAttrBy?
 repeat (any_goals (first|assumption|with_reducible apply rC hx hc|wp_step))
end
theorem oG{K:PySem.W.Frag}{a:Addr}:PySem.W.KitX K (.ref a) (.type "function") (PySem.W.KitAt a "function"):=PySem.W.kitx_of PySem.W.kitAt_ty (λ{_ _ _ _ _ s} p k=>by obtain⟨h,g,d,t,os⟩:=s; obtain⟨o,h1,h2⟩:=p; exact oF h1 h2 k)
end L2
namespace L2
open PySem PySem.Spec PyProof.Rows
inductive D where
 |non|bl (b:Bool)|int (i:Int)|str (x:Str)|tup (xs:List D)|lst (xs:List D)|dct (n:Nat)|exc (c:Str) (ns:List Str) (xs:List D)|fn (x:Str) (d:D)|dk (ks:List IG) (vs:List D)|gf (x:Str)
def Jw(K:PySem.W.Frag)(H:Hp)(a:Addr)(xs:List V):Prop :=
 (∃o,H a=some (.frz o (.lst xs))) ∨
  ∃(o:Obj)(its:Array Value)(n:Nat),K.lookup a=some o/\o.cls=.type "list"/\o.dict=none/\o.data=.seq its n/\its.size<=sizeLine/\bL xs its.toList
theorem Jw.l{K:PySem.W.Frag}{H:Hp}{a:Addr}{xs:List V}(h:Jw K H a xs):IW K H a xs:=by
 rcases h with⟨o,h⟩|h
 . exact .inl (.inr ⟨o,h⟩)
 . exact .inr h
def yB:HO->Prop
 |.frz _ u=>yB u
 |.ins _ _ _=>False
 |_=>True
noncomputable def vi(C L:Addr):List Value:=(if C=L then[]else[.ref C])++[.ref L,.type "ValueError",.type "Exception",.type "BaseException",.type "object"]
noncomputable def g9(K:PySem.W.Frag)(c:Str)(C:Addr):Bool:=match PySem.W.clsIn K C,PySem.W.nsIn K mainGlobals "LoadError" with
 | some cd,some (some (.ref L))=>cd.name == c && cd.hasDict && cd.mro == vi C L && (PySem.W.clsIn K L).any (λk=>k.name == ("LoadError" : Str)) &&
  PySem.W.findIn K (.ref C) "__getattribute__" == some (some (.builtin "BaseException.__getattribute__")) && PySem.W.findIn K (.ref C) "__getattr__" == some none && PySem.W.findIn K (.ref C) "__class__" == some (some (.builtin "object.__class__")) &&
  PySem.W.findIn K (.ref C) "__setattr__" == some (some (.builtin "object.__setattr__")) && PySem.W.typeIn K (.ref C) == some (.type "type") && PySem.W.nsIn K mainGlobals c == some (some (.ref C))
 |_,_=>false
noncomputable def vV:List Stmt->Option (Arguments×Expr×Scope×Pos)
 |[]=>none
 | st::r=>match vV r with
  |some l=>some l
  | none=>match st with
   | .Expr (.Call _ args _ _) _=>(match args.getLast? with
    |some (.Lambda p b sc pos)=>some (p,b,sc,pos)
    |_=>none)
   | .Return (some (.Call _ _ kws _)) _=>(match kws.getLast? with
    |some ⟨_,.Lambda p b sc pos,_⟩=>some (p,b,sc,pos)
    |_=>none)
   |_=>none
noncomputable def uH(K:PySem.W.Frag)(x:Str):Option (Arguments×Expr×Scope×Pos):=match PySem.W.nsIn K mainGlobals x with
 | some (some (.ref f))=>(match K.lookup f with
  | some ⟨_,_,.func fd,_⟩=>(match fd.body with
   |.stmts b=>vV b
   |_=>none)
  |_=>none)
 |_=>none
def XF(H:Hp)(dx:Option Addr)(ns:List Str)(vs:List V):Prop:=(ns=[]/\vs=[]/\dx=none)∨∃d od,dx=some d/\H d=some (.frz od (.xd (ns.zip vs)))/\ns.length=vs.length
mutual
inductive Jx (K:PySem.W.Frag) (H:Hp):V->D->Prop where
 |non:Jx K H .non .non
 |bl (b:Bool):Jx K H (.bl b) (.bl b)
 |int (i:Int):Jx K H (.int i) (.int i)
 |str (x:Str):Jx K H (.str x) (.str x)
 |tup {a:Addr} {vs:List V} {ds:List D} (h:IX K H a vs) (r:bf K H vs ds):Jx K H (.ref a) (.tup ds)
 |lst {a:Addr} {vs:List V} {ds:List D} (h:Jw K H a vs) (r:bf K H vs ds):Jx K H (.ref a) (.lst ds)
 |dct {a:Addr} {o:Obj} {kvs:List (IG×V)} (h:H a=some (.frz o (.dK kvs))):Jx K H (.ref a) (.dct kvs.length)
 |exc {a:Addr} {o:Obj} {u:HO} {c:Str} {C:Addr} {ns:List Str} {vs:List V} {ds:List D} (h:H a=some (.frz o u)) (hv:yB u) (hc:o.cls=.ref C) (hn:PySem.W.notCls o=true) (hs:g9 K c C=true) (hq:∀f∈ns,PySem.W.findIn K (.ref C) f=some none) (hf:XF H o.dict ns vs) (r:bf K H vs ds):Jx K H (.ref a) (.exc c ns ds)
 | fn {f c c':Addr} {oc oq:Obj} {x y:Str} {pr:Arguments} {bd:Expr} {sc:Scope} {pos:Pos} {pm ctv u:Value} {v:V} {d:D} (hl:uH K x=some (pr,bd,sc,pos)) (hf:H f=some (.frz (PySem.W.kla_obj "<lambda>" (m6 x) pr bd sc [(y,c)] pm c' ctv) (.own f)))
  (hq:H c'=some (.frz oq (.own c'))) (hc:iP oq (m6 x)) (hz:H c=some (.frz oc (.own c))) (hd:oc.data=.cell (some u)) (hv:bF v u) (hm:(y,NameKind.free)∈sc.names) (r:Jx K H v d):Jx K H (.ref f) (.fn x d)
 |dk {a:Addr} {o:Obj} {kvs:List (IG×V)} {ds:List D} (h:H a=some (.frz o (.dK kvs))) (r:bf K H (kvs.map (·.2)) ds):Jx K H (.ref a) (.dk (kvs.map (·.1)) ds)
 |gf {a:Addr} {x:Str} {fd:FuncData} (h:PySem.W.nsIn K mainGlobals x=some (some (.ref a))) (ho:K.lookup a=some ⟨.type "function",none,.func fd,#[]⟩) (hk:PySem.W.keepIn K (.ref a)=true):Jx K H (.ref a) (.gf x)
inductive bf (K:PySem.W.Frag) (H:Hp):List V->List D->Prop where
 |nil:bf K H [] []
 |cons {v:V} {d:D} {vs:List V} {ds:List D} (h:Jx K H v d) (t:bf K H vs ds):bf K H (v::vs) (d::ds)
end
def Fz:HO->Prop
 |.tup _=>True
 |.frz _ _=>True
 |.tbl _=>True
 |_=>False
def m8(H H':Hp):Prop:=∀b o,Fz o->H b=some o->H' b=some o
theorem IX.pres{K:PySem.W.Frag}{H H':Hp}{a:Addr}{xs:List V}(p:m8 H H')(h:IX K H a xs):IX K H' a xs:=by
 rcases h with(h|⟨o,h⟩)|h
 . exact .inl (.inl (p _ _ True.intro h))
 . exact .inl (.inr ⟨o,p _ _ True.intro h⟩)
 . exact .inr h
theorem Jw.pres{K:PySem.W.Frag}{H H':Hp}{a:Addr}{xs:List V}(p:m8 H H')(h:Jw K H a xs):Jw K H' a xs:=by
 rcases h with⟨o,h⟩|h
 . exact .inl ⟨o,p _ _ True.intro h⟩
 . exact .inr h
theorem XF.pres{H H':Hp}(p:m8 H H'){dx:Option Addr}{ns:List Str}{vs:List V}(h:XF H dx ns vs):XF H' dx ns vs:=by
 rcases h with h|⟨d,od,e,h,l⟩
 . exact .inl h
 . exact .inr ⟨d,od,e,p _ _ True.intro h,l⟩
mutual
theorem Jx.pres{K:PySem.W.Frag}{H H':Hp}(p:m8 H H'):∀{v:V}{d:D},Jx K H v d->Jx K H' v d
 |_,_,.non=>.non
 |_,_,.bl b=>.bl b
 |_,_,.int i=>.int i
 |_,_,.str x=>.str x
 |_,_,.tup h r=>.tup (h.pres p) (bf.pres p r)
 |_,_,.lst h r=>.lst (h.pres p) (bf.pres p r)
 |_,_,.dct h=>.dct (p _ _ True.intro h)
 |_,_,.exc h hv hc hn hs hq hf r=>.exc (p _ _ True.intro h) hv hc hn hs hq (hf.pres p) (bf.pres p r)
 |_,_,.fn hl hf hq hc hz hd hv hm r=>.fn hl (p _ _ True.intro hf) (p _ _ True.intro hq) hc (p _ _ True.intro hz) hd hv hm (Jx.pres p r)
 |_,_,.dk h r=>.dk (p _ _ True.intro h) (bf.pres p r)
 |_,_,.gf h ho hk=>.gf h ho hk
theorem bf.pres{K:PySem.W.Frag}{H H':Hp}(p:m8 H H'):∀{vs:List V}{ds:List D},bf K H vs ds->bf K H' vs ds
 |_,_,.nil=>.nil
 |_,_,.cons h t=>.cons (Jx.pres p h) (bf.pres p t)
end
theorem bf.length{K:PySem.W.Frag}{H:Hp}:∀{vs:List V}{ds:List D},bf K H vs ds->vs.length=ds.length
 |_,_,.nil=>rfl
 |_,_,.cons _ t=>by simp[bf.length t]
theorem bf.get{K:PySem.W.Frag}{H:Hp}:∀{vs:List V}{ds:List D}{i:Nat}{d:D},bf K H vs ds->ds[i]?=some d->∃v,vs[i]?=some v/\Jx K H v d
 |_,_,_,_,.nil,e=>by simp at e
 |_,_,0,_,.cons h _,e=>by simp at e;subst e;exact⟨_,rfl,h⟩
 | _,_,i+1,d,.cons _ t,e=>by obtain⟨v,h1,h2⟩:=bf.get (i:=i) (d:=d) t (by simpa using e);exact⟨v,by simpa using h1,h2⟩
theorem bf.set{K:PySem.W.Frag}{H:Hp}{v:V}{d:D}(r:Jx K H v d):∀{vs:List V}{ds:List D}(i:Nat),bf K H vs ds->bf K H (vs.set i v) (ds.set i d)
 |_,_,_,.nil=>.nil
 |_,_,0,.cons _ t=>.cons r t
 |_,_,i+1,.cons h t=>.cons h (bf.set r i t)
theorem bf.append{K:PySem.W.Frag}{H:Hp}:∀{vs us:List V}{ds es:List D},bf K H vs ds->bf K H us es->bf K H (vs++us) (ds++es)
 |_,_,_,_,.nil,s=>s
 |_,_,_,_,.cons h t,s=>.cons h (bf.append t s)
theorem bf.take{K:PySem.W.Frag}{H:Hp}:∀{vs:List V}{ds:List D}(n:Nat),bf K H vs ds->bf K H (vs.take n) (ds.take n)
 |_,_,0,_=>.nil
 |_,_,_+1,.nil=>.nil
 |_,_,n+1,.cons h t=>.cons h (bf.take n t)
theorem bf.drop{K:PySem.W.Frag}{H:Hp}:∀{vs:List V}{ds:List D}(n:Nat),bf K H vs ds->bf K H (vs.drop n) (ds.drop n)
 |_,_,0,r=>r
 |_,_,_+1,.nil=>.nil
 |_,_,n+1,.cons _ t=>bf.drop n t
inductive L where
 |un|d (x:D)|own (a:Addr) (xs:List D)|bx (k:Option Addr) (ls:List L)|dic (a:Addr) (kvs:List (IG×D))
noncomputable abbrev Ev:=List L
mutual
noncomputable def aW:L->List Addr
 |.un=>[]
 |.d _=>[]
 |.own a _=>[a]
 |.bx k ls=>k.toList++c7 ls
 |.dic a _=>[a]
noncomputable def c7:List L->List Addr
 |[]=>[]
 |l::ls=>aW l++c7 ls
end
noncomputable def owns(Z:Ev):List Addr:=Z.flatMap aW
theorem dY:∀ls:List L,c7 ls=owns ls
 |[]=>rfl
 |l::ls=>by rw[c7,dY ls];rfl
mutual
def aT(K:PySem.W.Frag)(H:Hp)(s:Option V):L->Prop
 |.un=>True
 |.d x=>∃v,s=some v/\Jx K H v x
 |.own a xs=>s=some (.ref a)/\∃vs,H a=some (.lst vs)/\bf K H vs xs
 |.bx none ls=>∃a vs,s=some (.ref a)/\IX K H a vs/\bG K H vs ls
 |.bx (some a) ls=>s=some (.ref a)/\∃vs,H a=some (.lst vs)/\bG K H vs ls
 |.dic a kvs=>s=some (.ref a)/\∃vs,H a=some (.dK vs)/\Paired (λ(p:IG×V) (q:IG×D)=>p.1=q.1/\Jx K H p.2 q.2) vs kvs
def bG(K:PySem.W.Frag)(H:Hp)(vs:List V):List L->Prop
 |[]=>vs=[]
 |l::ls=>∃v us,vs=v::us/\aT K H (some v) l/\bG K H us ls
end
mutual
theorem aT.pres{K:PySem.W.Frag}{H H':Hp}(p:m8 H H'):∀{s:Option V}(l:L),(∀a∈aW l,H' a=H a)->aT K H s l->aT K H' s l
 |_,.un,_,_=>by simp only[aT]
 | _,.d x,_,h=>by
  simp only[aT]at h ⊢
  obtain⟨v,e,r⟩:=h
  exact⟨v,e,r.pres p⟩
 | _,.own a xs,q,h=>by
  simp only[aT]at h ⊢
  obtain⟨e,vs,ha,r⟩:=h
  exact⟨e,vs,(q a (by simp[aW])).trans ha,r.pres p⟩
 | _,.bx none ls,q,h=>by
  simp only[aT]at h ⊢
  obtain⟨a,vs,e,ha,r⟩:=h
  exact⟨a,vs,e,ha.pres p,bG.pres p ls (λb hb=>q b (by simp[aW,hb])) r⟩
 | _,.bx (some a) ls,q,h=>by
  simp only[aT]at h ⊢
  obtain⟨e,vs,ha,r⟩:=h
  exact⟨e,vs,(q a (by simp[aW])).trans ha,bG.pres p ls (λb hb=>q b (by simp[aW,hb])) r⟩
 | _,.dic a kvs,q,h=>by
  simp only[aT]at h ⊢
  obtain⟨e,vs,ha,r⟩:=h
  exact⟨e,vs,(q a (by simp[aW])).trans ha,Paired.mapP r λ_ _ z=>⟨z.1,z.2.pres p⟩⟩
theorem bG.pres{K:PySem.W.Frag}{H H':Hp}(p:m8 H H'):∀{vs:List V}(ls:List L),(∀a∈c7 ls,H' a=H a)->bG K H vs ls->bG K H' vs ls
 |_,[],_,h=>by simpa only[bG]using h
 | _,l::ls,q,h=>by
  simp only[bG]at h ⊢
  obtain⟨v,us,e,h1,h2⟩:=h
  exact⟨v,us,e,aT.pres p l (λb hb=>q b (by simp[c7,hb])) h1,bG.pres p ls (λb hb=>q b (by simp[c7,hb])) h2⟩
end
def A5:HO->Prop
 |.lst _=>True
 |.dK _=>True
 |_=>False
theorem A5.no{o:HO}(h:A5 o)(p:Fz o):False:=by cases o<;>first|exact h|exact p
mutual
theorem aT.lstAt{K:PySem.W.Frag}{H:Hp}:∀{s:Option V}(l:L),aT K H s l->∀a∈aW l,∃o,H a=some o/\A5 o
 |_,.un,_,a,ha=>by simp[aW]at ha
 |_,.d x,_,a,ha=>by simp[aW]at ha
 | _,.own b xs,h,a,ha=>by
  simp only[aT]at h
  have e:a=b:=by simpa[aW]using ha
  subst e
  obtain⟨_,vs,q,_⟩:=h
  exact⟨_,q,True.intro⟩
 | _,.bx none ls,h,a,ha=>by
  simp only[aT]at h
  obtain⟨b,vs,e,_,r⟩:=h
  exact bG.lstAt ls r a (by simpa[aW]using ha)
 | _,.bx (some b) ls,h,a,ha=>by
  simp only[aT]at h
  obtain⟨e,vs,q,r⟩:=h
  rcases(by simpa[aW]using ha:a=b∨a∈c7 ls)with z|z
  .
   subst z;exact⟨_,q,True.intro⟩
  .
   exact bG.lstAt ls r a z
 | _,.dic b xs,h,a,ha=>by
  simp only[aT]at h
  have e:a=b:=by simpa[aW]using ha
  subst e
  obtain⟨_,vs,q,_⟩:=h
  exact⟨_,q,True.intro⟩
theorem bG.lstAt{K:PySem.W.Frag}{H:Hp}:∀{vs:List V}(ls:List L),bG K H vs ls->∀a∈c7 ls,∃o,H a=some o/\A5 o
 |_,[],_,a,ha=>by simp[c7]at ha
 | _,l::ls,h,a,ha=>by
  simp only[bG]at h
  obtain⟨v,us,e,h1,h2⟩:=h
  rcases(by simpa[c7]using ha:a∈aW l∨a∈c7 ls)with z|z
  .
   exact aT.lstAt l h1 a z
  .
   exact bG.lstAt ls h2 a z
end
structure ay (K:PySem.W.Frag) (Pr H:Hp) (σ:St) (Z:Ev):Prop where
 sub:∀b o,Pr b=some o->H b=some o
 nd:(owns Z).Nodup
 off:∀a∈owns Z,Pr a=none
 sl:Paired (aT K H) σ Z
theorem eM{Z:Ev}{a:Addr}:a∈owns Z↔∃l∈Z,a∈aW l:=by unfold owns;rw[List.mem_flatMap]
theorem A6{Z:Ev}{a:Addr}{xs:List D}(h:L.own a xs∈Z):a∈owns Z:=eM.mpr ⟨_,h,by simp[aW]⟩
theorem aE(a b:Ev):owns (a++b)=owns a++owns b:=List.flatMap_append
theorem Paired.mem2{α β:Type}{F:α->β->Prop}:∀{l1:List α}{l2:List β}{b:β},Paired F l1 l2->b∈l2->∃a,a∈l1/\F a b
 |_,_,_,.nil,h=>by simp at h
 | _,_,_,.cons r t,h=>by
  rcases MC.mp h with rfl|h
  . exact⟨_,Mw,r⟩
  . obtain⟨a,h1,h2⟩:=Paired.mem2 t h;exact⟨a,so _ h1,h2⟩
theorem Paired.app{α β:Type}{F:α->β->Prop}:∀{a c:List α}{b d:List β},Paired F a b->Paired F c d->Paired F (a++c) (b++d)
 |_,_,_,_,.nil,s=>s
 |_,_,_,_,.cons r t,s=>.cons r (Paired.app t s)
theorem Paired.unapp{α β:Type}{F:α->β->Prop}:∀{a c:List α}{b d:List β},a.length=b.length->Paired F (a++c) (b++d)->Paired F a b/\Paired F c d
 |[],_,[],_,_,s=>⟨.nil,s⟩
 | x::a,_,y::b,_,hl,.cons r t=>by obtain⟨p,q⟩:=Paired.unapp (a:=a) (b:=b) (by simpa using hl) t;exact⟨.cons r p,q⟩
 |[],_,_::_,_,hl,_=>by simp at hl
 |_::_,_,[],_,hl,_=>by simp at hl
theorem Paired.get2{α β:Type}{F:α->β->Prop}:∀{l1:List α}{l2:List β}{i:Nat}{b:β},Paired F l1 l2->l2[i]?=some b->∃a,l1[i]?=some a/\F a b
 |_,_,_,_,.nil,e=>by simp at e
 |_,_,0,_,.cons h _,e=>by simp at e;subst e;exact⟨_,rfl,h⟩
 | _,_,i+1,d,.cons _ t,e=>by obtain⟨v,h1,h2⟩:=Paired.get2 (i:=i) (b:=d) t (by simpa using e);exact⟨v,by simpa using h1,h2⟩
theorem Paired.set2{α β:Type}{F:α->β->Prop}{a:α}{b:β}(r:F a b):∀{l1:List α}{l2:List β}(i:Nat),Paired F l1 l2->Paired F (l1.set i a) (l2.set i b)
 |_,_,_,.nil=>.nil
 |_,_,0,.cons _ t=>.cons r t
 |_,_,i+1,.cons h t=>.cons h (Paired.set2 r i t)
theorem Paired.impMem{α β:Type}{F G:α->β->Prop}:∀{l1:List α}{l2:List β},Paired F l1 l2->(∀b∈l2,∀a,F a b->G a b)->Paired G l1 l2
 |_,_,.nil,_=>.nil
 |_,_,.cons r t,h=>.cons (h _ Mw _ r) (Paired.impMem t λb hb=>h b (so _ hb))
theorem Paired.set_r{α β:Type}{F:α->β->Prop}{b:β}:∀{l1:List α}{l2:List β}(i:Nat),Paired F l1 l2->(∀a,l1[i]?=some a->F a b)->Paired F l1 (l2.set i b)
 |_,_,_,.nil,_=>.nil
 |_,_,0,.cons _ t,h=>.cons (h _ rfl) t
 |_,_,i+1,.cons q t,h=>.cons q (Paired.set_r i t λa e=>h a (by simpa using e))
section
variable{K:PySem.W.Frag}{Pr H H':Hp}{σ τ w σ':St}{Z μ lam Z':Ev}
theorem ay.len(E:ay K Pr H σ Z):σ.length=Z.length:=Paired.length E.sl
noncomputable def a9(H:Hp)(Z:Ev):Hp:=λb=>if b∈owns Z then none else H b
theorem ay.at_own(E:ay K Pr H σ Z){a:Addr}(h:a∈owns Z):∃o,H a=some o/\A5 o:=by obtain⟨l,hx,ha⟩:=eM.mp h;obtain⟨s,_,q⟩:=Paired.mem2 E.sl hx;exact q.lstAt l a ha
theorem ay.wide(E:ay K Pr H σ Z):ay K (a9 H Z) H σ Z :=
 ⟨λb o e=>by unfold a9 at e;split at e;cases e;exact e,E.nd,λa h=>by unfold a9;rw[if_pos h],E.sl⟩
theorem ay.drop(E:ay K Pr H (τ++σ) (lam++Z))(hl:τ.length=lam.length):ay K Pr H σ Z :=
 ⟨E.sub,(MX.mp (aE lam Z ▸ E.nd)).2.1,λa h=>E.off a (by rw[aE];exact MM _ h),(Paired.unapp hl E.sl).2⟩
theorem ay.left(E:ay K Pr H (τ++σ) (lam++Z))(hl:τ.length=lam.length):ay K Pr H τ lam :=
 ⟨E.sub,(MX.mp (aE lam Z ▸ E.nd)).1,λa h=>E.off a (by rw[aE];exact MJ _ h),(Paired.unapp hl E.sl).1⟩
theorem oH{H H':Hp}{Z:Ev}{σ:St}{Pr:Hp}(E:ay K Pr H σ Z)(h:∀b o,a9 H Z b=some o->H' b=some o):m8 H H':=λb o p e=>by refine h b o ?_;unfold a9;rw[if_neg,e];intro hm;obtain⟨u,e',m⟩:=E.at_own hm;rw[e]at e';cases e';exact m.no p
theorem ay.step(E:ay K Pr H (τ++σ) (lam++Z))(hl:τ.length=lam.length)(E':ay K (a9 H Z) H' (w++σ') (μ++Z'))(hw:w.length=μ.length):ay K Pr H' (w++(τ++σ')) (μ++(lam++Z')):=by
 have Eσ:=E.drop hl;have p:m8 H H':=oH Eσ E'.sub;have dis:∀a∈owns lam,a∉owns Z:=λa h1 h2=>(MX.mp (aE lam Z ▸ E.nd)).2.2 a h1 a h2 rfl;have at':∀a∈owns lam,a9 H Z a=H a:=λa h=>by unfold a9;rw[if_neg (dis a h)]
 have some':∀a∈owns lam,∃o,H a=some o/\A5 o:=λa h=>E.at_own (by rw[aE];exact MJ _ h);have out:∀a∈owns lam,a∉owns (μ++Z'):=λa h h2=>by have z:=E'.off a h2;rw[at' a h]at z;obtain⟨vs,e,_⟩:=some' a h;rw[e]at z;cases z
 have s1:=(Paired.unapp hw E'.sl);have s2:=(Paired.unapp hl E.sl).1;refine⟨λb o e=>?_,?_,λa ha=>?_,Paired.app s1.1 (Paired.app ?_ s1.2)⟩
 . refine E'.sub b o ?_;unfold a9;rw[if_neg,E.sub b o e];intro hm;have z:=Eσ.off b hm;rw[e]at z;cases z
 .
  have n1:=E'.nd;rw[aE]at n1;rw[aE,aE];obtain⟨q1,q2,q3⟩:=MX.mp n1;refine MX.mpr ⟨q1,MX.mpr ⟨(MX.mp (aE lam Z ▸ E.nd)).1,q2,λa ha b hb=>?_⟩,λa ha b hb=>?_⟩
  . rintro rfl;exact out a ha (by rw[aE];exact MM _ hb)
  .
   rcases ML.mp hb with hb|hb
   . rintro rfl;exact out a hb (by rw[aE];exact MJ _ ha)
   . exact q3 a ha b hb
 .
  rw[aE,aE]at ha
  have key:a∈owns (μ++Z')->Pr a=none:=λh=>by
   have z:=E'.off a h;unfold a9 at z;by_cases hm:a∈owns Z
   . exact Eσ.off a hm
   .
    rw[if_neg hm]at z
    cases q:Pr a with
    |none=>rfl
    |some o=>rw[E.sub a o q]at z;cases z
  rcases ML.mp ha with h|h
  . exact key (by rw[aE];exact MJ _ h)
  .
   rcases ML.mp h with h|h
   . exact E.off a (by rw[aE];exact MJ _ h)
   . exact key (by rw[aE];exact MM _ h)
 .
  have:∀l∈lam,∀s,aT K H s l->aT K H' s l:=λl hlm s h=>h.pres p l λa e=>by have ha:a∈owns lam:=eM.mpr ⟨l,hlm,e⟩;obtain⟨vs,e,_⟩:=some' a ha;rw[E'.sub a _ ((at' a ha).trans e),e]
  exact Paired.impMem s2 this
end
end L2
namespace L2
open PySem PySem.Spec PyProof.Rows PySem.W
structure lx (K:Frag) (c:Str) (C L:Addr) (cd:ClassData):Prop where
 cls:clsIn K C=some cd
 load:nsIn K mainGlobals "LoadError"=some (some (.ref L))
 name:cd.name=c
 dct:cd.hasDict=true
 mro:cd.mro=vi C L
 lname:∃ k,clsIn K L=some k/\k.name=("LoadError" : Str)
 ga:findIn K (.ref C) "__getattribute__"=some (some (.builtin "BaseException.__getattribute__"))
 gx:findIn K (.ref C) "__getattr__"=some none
 gc:findIn K (.ref C) "__class__"=some (some (.builtin "object.__class__"))
 sa:findIn K (.ref C) "__setattr__"=some (some (.builtin "object.__setattr__"))
 ty:typeIn K (.ref C)=some (.type "type")
 own:nsIn K mainGlobals c=some (some (.ref C))
theorem c8{K:Frag}{c:Str}{C:Addr}(h:g9 K c C=true):∃L cd,lx K c C L cd:=by
 unfold g9 at h;split at h
 . rename_i cd L e1 e2;simp only[MR,On]at h;obtain⟨⟨⟨⟨⟨⟨⟨⟨⟨h1,h2⟩,h3⟩,h4⟩,h5⟩,h6⟩,h7⟩,h8⟩,h9⟩,h10⟩:=h;obtain⟨k,hk,hn⟩:=any_some h4;exact⟨L,cd,e1,e2,h1,h2,h3,⟨k,hk,On.mp hn⟩,h5,h6,h7,h8,h9,h10⟩
 . cases h
section
variable{K:Frag}{c:Str}{C L:Addr}{cd:ClassData}
theorem rD(C L:Addr):vi C L=[.ref C,.ref L,.type "ValueError",.type "Exception",.type "BaseException",.type "object"]∨vi C L=[.ref L,.type "ValueError",.type "Exception",.type "BaseException",.type "object"]/\C=L:=by
 by_cases h:C=L
 . exact .inr ⟨by unfold vi;rw[if_pos h];rfl,h⟩
 . exact .inl (by unfold vi;rw[if_neg h];rfl)
theorem yC(C L:Addr)(b:Value):(vi C L).contains b=([.ref C,.ref L,.type "ValueError",.type "Exception",.type "BaseException",.type "object"]:List Value).contains b:=by
 rcases rD C L with e|⟨e,h⟩
 . rw[e]
 . subst h;rw[e];simp only[NS,<- Bool.or_assoc,Bool.or_self]
theorem lx.mroIn(S:lx K c C L cd)(b:Value):PySem.W.mroIn K C b=some (([.ref C,.ref L,.type "ValueError",.type "Exception",.type "BaseException",.type "object"]:List Value).contains b):=by
 unfold PySem.W.mroIn;rw[S.cls,Option.bind_some,S.mro];have ne:(vi C L).isEmpty=false:=by rcases rD C L with e|⟨e,_⟩<;>rw[e]<;>rfl
 show(if(vi C L).isEmpty=true then none else some ((vi C L).contains b))=_
 rw[ne,yC];rfl
theorem l6(C L:Addr)(T:String):(([.ref C,.ref L,.type "ValueError",.type "Exception",.type "BaseException",.type "object"]:List Value).contains (.type T))=(["ValueError","Exception","BaseException","object"]:List String).contains T:=by
 simp only[NS,List.contains_nil,Oq];have e:∀a:Addr,(Value.type T == Value.ref a)=false:=λ_=>rfl
 have f:∀U:String,(Value.type T == Value.type U)=(T == U):=λU=>by
  by_cases q:T=U
  . subst q;simp
  . rw[MT.mpr q,MT];intro z;injection z with z;exact q z
 rw[e,e,f,f,f,f];rfl
theorem sV(C L D:Addr):(([.ref C,.ref L,.type "ValueError",.type "Exception",.type "BaseException",.type "object"]:List Value).contains (.ref D))=(D == C ||D == L):=by
 simp only[NS,List.contains_nil,Oq];have e:∀T:String,(Value.ref D == Value.type T)=false:=λ_=>rfl
 have f:∀a:Addr,(Value.ref D == Value.ref a)=(D == a):=λU=>by
  by_cases q:D=U
  . subst q;simp
  . rw[MT.mpr q,MT];intro z;injection z with z;exact q z
 rw[e,e,e,e,f,f,Oq,Oq,Oq,Oq]
theorem lx.has(S:lx K c C L cd){T:String} (h:(["ValueError","Exception","BaseException","object"]:List String).contains T=true):PySem.W.mroIn K C (.type T)=some true:=by rw[S.mroIn,l6,h]
theorem lx.isT(S:lx K c C L cd){M:Model}{h:Heap}(X:K.In h)(T:String):Looks M h (isSubtype (.ref C) (.type T)) ((["ValueError","Exception","BaseException","object"]:List String).contains T):=looks_mroIn X (by rw[S.mroIn,l6])
end
section
variable{prog:Program}{w:World}{A:Around}{E:Value->Shared->Prop}{s:Shared}{K:Frag}{c:Str}{x C L:Addr}{cd:ClassData}{ox:Obj}{od:Option Obj}{name:Str}
theorem uI{tk:Tok}{v:Value}{Q:Fin->Shared->Prop}(X:K.In s.heap)(I:InstAt s.heap x ox C od)(hf:findObj K C od name=some (.value v))(hq:Q (.done (.ret v)) s) :
  wpAny (model prog w) A (Builtin.«object.__getattribute__» ⟨[.ref x,.str name tk],[]⟩) Q E s:=by
 obtain⟨hh,g,d,t,os⟩:=s;have L0:=I.type (M:=model prog w);have L1:=looks_find (M:=model prog w) X I hf;unfold Builtin.«object.__getattribute__»;refine kS (MB (kS (MB ?_)));exact kS (L0.at (kS (L1.at (MB hq))))
theorem pT{tk:Tok}{Q:Fin->Shared->Prop}(S:lx K c C L cd)(X:K.In s.heap)(I:InstAt s.heap x ox C od) (hf:findObj K C od "__class__"=some (.bind (.builtin "getset_descriptor.__get__") (.builtin "object.__class__"))) (hq:Q (.done (.ret (.ref C))) s) :
  wpAny (model prog w) A (Builtin.«object.__getattribute__» ⟨[.ref x,.str "__class__" tk],[]⟩) Q E s:=by
 obtain⟨hh,g,d,t,os⟩:=s;have L0:=I.type (M:=model prog w);have L1:=looks_find (M:=model prog w) X I hf;unfold Builtin.«object.__getattribute__»;refine kS (MB (kS (MB ?_)));refine kS (L0.at (kS (L1.at ?_)));show wpAny _ _ (holding [Value.builtin "object.__class__"] (call (.builtin "getset_descriptor.__get__") [.builtin "object.__class__",.ref x,.ref C]) >>= ret) _ _ _;refine kS (NT (Om ?_));exact class_get (s:=⟨hh,g,d,t,os⟩) (ox:=ox) (od:=od) X I (S.has x_) (MB hq)
theorem vW{tk:Tok}{v:Value}{fill expr:Bool}{Q:Value->Shared->Prop}(S:lx K c C L cd)(X:K.In s.heap)(I:InstAt s.heap x ox C od)
  (he:∀(A':Around)(Q':Fin->Shared->Prop),Q' (.done (.ret v)) s->wpAny (model prog w) A' (Builtin.«object.__getattribute__» ⟨[.ref x,.str name tk],[]⟩) Q' (λ_ _=>False) s) (hh:handedIn v=true) (hq:Q v s) :
  wpAny (model prog w) A (getAttrBy (.ref x) (.str name tk) fill expr) Q E s:=by
 have FB:=F.excAttr_ValueError;have L0:=I.type (M:=model prog w);have L1:=looks_findIn (M:=model prog w) X S.ga;have L2:=looks_findIn (M:=model prog w) X S.gx;unfold getAttrBy;refine NT (kS (L0.here (kS (L1.here ?_))));have hx2:(Value.builtin "BaseException.__getattribute__" == Value.builtin "object.__getattribute__")=false:=by decide +kernel
 dsimp only;rw[hx2,NN,if_neg (by decide)];unfold getAttrByItsOwn;refine kS ((looks_hook (mc:=.ref C) X (r:=none) S.gx).here ?_);refine kS (wpAny_attempt (NT ?_));have hx0:(expr && onTheHeap (Value.builtin "BaseException.__getattribute__"))=false:=by cases expr <;> rfl
 unfold callGetattribute boundAndCalled;rw[hx0,if_neg (by decide),FB.ga.bind];refine kS (MB (Om ?_));have hi:Looks (model prog w) s.heap (isInstance (.ref x) (.type "BaseException")) true:=L0.andThen (S.isT X _);have hkd:builtinKind "BaseException.__getattribute__"=some .slot:=by decide +kernel
 have hsp:splitId "BaseException.__getattribute__"=some ("BaseException","__getattribute__"):=by decide +kernel
 refine Od FB.ga.plain F.entry_bexc_ga (@check_slot (model prog w) _ _ s "BaseException.__getattribute__" "BaseException" "__getattribute__" (.ref x) [.str name tk] [] _ hkd hsp hi (F.args_bexc_ga (.ref x) (.str name tk)) ?_);refine Np (he _ _ ?_) (λ_ _ z=>z) λ_ _ z=>z.elim;show wpAny _ _ (handedOut v) _ _ _;rw[handedOut_of hh];exact MB hq
end
theorem A7(K:Frag):specialIn K (.builtin "object.__class__") "__get__"=some (some (.builtin "getset_descriptor.__get__")):=(by decide +kernel:specialIn [] (.builtin "object.__class__") "__get__"=some (some (.builtin "getset_descriptor.__get__")))
theorem vX(K:Frag):takesIn K (.builtin "object.__class__")=some true:=(by decide +kernel:takesIn [] (.builtin "object.__class__")=some true)
section
variable{prog:Program}{w:World}{A:Around}{E:Value->Shared->Prop}{s:Shared}{K:Frag}{c:Str}{x C L:Addr}{cd:ClassData}{ox:Obj}{od:Option Obj}{name:Str}
theorem lx.fclass(S:lx K c C L cd)(od:Option Obj):findObj K C od "__class__"=some (.bind (.builtin "getset_descriptor.__get__") (.builtin "object.__class__")):=by unfold findObj;rw[S.cls,Option.bind_some,S.gc,Option.bind_some];simp[A7,vX]
theorem rE{Q:Option Value->Shared->Prop}(S:lx K c C L cd)(X:K.In s.heap)(I:InstAt s.heap x ox C od)(hq:Q (some (.ref C)) {s with toks:=s.toks+1}) :
  wpAny (model prog w) A (getAttr? (.ref x) "__class__") Q E s:=by
 obtain⟨hh,g,d,t,os⟩:=s;unfold getAttr? getAttrBy?;refine kS (wpAny_mkText (kS (wpAny_attempt ?_)));exact vW (s:=⟨hh,g,d,t+1,os⟩) (ox:=ox) (od:=od) S X I (λA' Q' q=>pT (s:=⟨hh,g,d,t+1,os⟩) S X I (S.fclass od) q) rfl (MB hq)
theorem vY{v:Value}{expr:Bool}{Q:Value->Shared->Prop}(S:lx K c C L cd)(X:K.In s.heap)(I:InstAt s.heap x ox C od)(hf:findObj K C od name=some (.value v))(hv:handedIn v=true)(hq:Q v {s with toks:=s.toks+1}) :
  wpAny (model prog w) A (getAttr (.ref x) name expr) Q E s:=by
 obtain⟨hh,g,d,t,os⟩:=s;unfold getAttr;refine kS (wpAny_mkText ?_);exact vW (s:=⟨hh,g,d,t+1,os⟩) (ox:=ox) (od:=od) S X I (λA' Q' q=>uI (s:=⟨hh,g,d,t+1,os⟩) X I hf q) hv hq
theorem sW(S:lx K c C L cd):KitX K (.ref x) (.ref C) (λh=>∃ox od,InstAt h x ox C od) where
 ty:=λ_ _ _ ⟨_,_,I⟩=>I.type
 it:=λ_ _ X _=>by
  have hc:=S.cls;unfold clsIn at hc;split at hc
  . rename_i ho;intro A' Q' E' s' k q;unfold isType loadHead;exact kS (wpAny_loadPart (k _ _ (X _ _ ho)) (MB q))
  . cases hc
 ne:=λh tp dd its n sl X htp=>by
  refine Bool.eq_false_iff.mpr λq=>?_;have e:C=tp:=Value.ref.inj (On.mp q);subst e;have hc:=S.cls;unfold clsIn at hc;split at hc
  . rename_i ho;have z:=(X _ _ ho).symm.trans htp;cases z
  . cases hc
 ca:=λX ⟨_,_,I⟩ k=>rE S X I k
theorem lx.fown(S:lx K c C L cd){o:Obj}{v:Value}(hn:findIn K (.ref C) name=some none)(hl:lookIn name o=some (some v)):findObj K C (some o) name=some (.value v):=by unfold findObj;rw[S.cls,Option.bind_some,hn,Option.bind_some];simp[PySem.W.ownOf,S.dct,hl]
end
theorem l7{K:Frag}{C:Addr}{cd:ClassData}(h:clsIn K C=some cd):∃oc odc sl,K.lookup C=some ⟨oc,odc,.cls cd,sl⟩:=by
 unfold clsIn at h;split at h
 . rename_i ho;cases h;exact⟨_,_,_,ho⟩
 . cases h
section
variable{prog:Program}{w:World}{A:Around}{E:Value->Shared->Prop}{s:Shared}{K:Frag}{c:Str}{x C L:Addr}{cd:ClassData}{ox:Obj}{od:Option Obj}{name:Str}
theorem F0{vs:Array Value}{text:Value}{Q:Value->Shared->Prop}(S:lx K c C L cd)(X:K.In s.heap)(I:InstAt s.heap x ox C od)(hd:ox.data=.fields vs)(hz:0<vs.size)
  (hq:∀ t,Q .none {s with heap:=(s.heap.push {cls:=.type "tuple",data:=.seq #[text] }).update x (Obj.mapFields (·.setIfInBounds 0 (.ref s.heap.objs.size))),toks:=t}) :
  wpAny (model prog w) A (call (.builtin "ValueError.__init__") [.ref x,text]) Q E s:=by
 have FB:=F.excBase_ValueError;have hi:Looks (model prog w) s.heap (isInstance (.ref x) (.type "ValueError")) true:=I.type.andThen (S.isT X _);have hx:=I.at_;obtain⟨hh,g,d,t,os⟩:=s;have hx1:=tu (h:=hh) {cls:=.type "tuple",data:=.seq #[text] } hx;have h0:vs[0]?=some vs[0]:=Array.getElem?_eq_getElem hz;have hst:=FB.noStar;refine Om (Od FB.init.plain FB.initEntry ?_);simp only[checkBuiltinCall,FB.initKind,FB.initSplit,FB.initRow];refine kS (hi.here ?_);simp only[Bool.not_true,Bool.false_eq_true,if_false];have hcl:=I.cls;obtain⟨oc,odc,sl,hK⟩:=l7 S.cls;have hC:hh.get? C=some ⟨oc,odc,.cls cd,sl⟩:=X _ _ hK
 repeat (first|(with_reducible refine Ni hx ?_;rw[hcl])|with_reducible refine Ni hC ?_|with_reducible refine(S.isT X _).here ?_|wp_step)
 rw[hd];refine MB ?_;rw[h0];refine MB (kS (wpAny_setField hx1 hd hz ?_))
 have done:∀t',wpAny (model prog w) A.in1 (ret Value.none) (λIV s'=>match IV with
   | Fin.done f=>(match (Except.ok f:Result)with
    |.ok (.ret v)=>Q v s'
    |.ok _=>False
    |.error e=>E e s')
   | Fin.again c'=>c'.quiet=true/\codeAny (model prog w) A c' (λr s'=>match r with
    |.ok (.ret v)=>Q v s'
    |.ok _=>False
    |.error e=>E e s') s') (λe s'=>E e s') ⟨(hh.push {cls:=.type "tuple",data:=.seq #[text] }).update x (Obj.mapFields (·.setIfInBounds 0 (.ref hh.objs.size))),g,d,t',os⟩:=λt'=>MB (hq t')
 split
 . exact wpAny_letGo (done _)
 . exact MB (done _)
theorem pU{v:Value}{Q:Unit->Shared->Prop}(S:lx K c C L cd)(X:K.In s.heap)(I:InstAt s.heap x ox C od)(hna:findIn K (.ref C) name=some none)
  (h:∀(A':Around)(R:Fin->Shared->Prop),(∀s',Q () s'->R (.done (.ret .none)) s')->wpAny (model prog w) A' (Builtin.ObjectAttr.storeInOwnDict (.ref x) (.ref C) (.str name s.toks) name v false) R (λ_ _=>False) {s with toks:=s.toks+1}) :
  wpAny (model prog w) A (setAttr (.ref x) name v) Q E s:=by
 have SF:=PySem.F.store_ValueError;obtain⟨hh,g,d,t,os⟩:=s;have L0:=I.type (M:=model prog w);have L1:=looks_findIn (M:=model prog w) X S.sa;have L2:=looks_findIn (M:=model prog w) X hna;have Lm:Looks (model prog w) hh (mroOf (.ref C)) cd.mro:=(looks_clsIn X S.cls).andThen .now;have hi:Looks (model prog w) hh (isInstance (.ref x) (.type "object")) true:=L0.andThen (S.isT X _);unfold setAttr callSpecial? specialOf;refine kS (wpAny_mkText (kS (kS (kS (L0.at (L1.at ?_))))));dsimp only;refine NT (kS ?_);rw[SF.slot.bind];refine MB (kS (Om ?_));refine Od SF.slot.plain SF.entry (@check_slot (model prog w) _ _ ⟨hh,g,d,t+1,os⟩ "object.__setattr__" "object" "__setattr__" (.ref x) [.str name t,v] [] _ SF.kind SF.split hi (SF.args (.ref x) (.str name t) v) ?_);show wpAny _ _ (Builtin.«object.__setattr__» ⟨[.ref x,.str name t,v],[]⟩) _ _ _;rw[osa_eq,refuse_eq];refine kS (kS (L0.at (kS (Lm.at ?_))));rw[S.mro];have em:vi C L=[.ref C,.ref L,.type "ValueError",.type "Exception",.type "BaseException",.type "object"]∨vi C L=[.ref L,.type "ValueError",.type "Exception",.type "BaseException",.type "object"]:=(rD C L).imp id And.left;rcases em with e|e
 all_goals
  rw[e]
  first|rw[refuseLoop_ref,refuseLoop_ref,SF.passes] | rw[refuseLoop_ref,SF.passes]
  refine MB (kS (L0.at (kS (L2.at (kS (MB ?_))))));dsimp only;refine Np (h _ _ λs' q=>?_) (λ_ _ z=>z) λ_ _ z=>z.elim;exact MB (MB q)
theorem yD{v:Value}{Q:Unit->Shared->Prop}(S:lx K c C L cd)(X:K.In s.heap)(I:InstAt s.heap x ox C od)(hdn:ox.dict=none)(hna:findIn K (.ref C) name=some none)
  (hq:∀h' tk,h'.get? x=some {ox with dict:=some s.heap.objs.size}->h'.Ns1 s.heap.objs.size (λy=>if y=name then some v else none)->(∀b o,b≠x->s.heap.get? b=some o->h'.get? b=some o)->Q () {s with heap:=h',toks:=tk}) :
  wpAny (model prog w) A (setAttr (.ref x) name v) Q E s:=by
 refine pU S X I hna λA' R k=>?_;obtain⟨hh,g,d,t,os⟩:=s;have hx:=I.at_;have hcl:=I.cls;have hno:=I.no;have Lc:=looks_clsIn (M:=model prog w) X S.cls;have hxs:x≠hh.objs.size:=MO (MA hx);unfold Builtin.ObjectAttr.storeInOwnDict;refine kS (MB ?_);rw[if_neg (by show ¬ ((Value.ref C == Value.type "module")=true); exact λz=>by cases z)];refine kS ?_;show wpAny _ _ (instanceDict x true) _ _ _;unfold instanceDict;refine kS (Ni hx ?_);rw[hcl];dsimp only;refine kS (Lc.at ?_);rw[S.dct];simp only[Bool.not_true,Bool.false_eq_true,if_false];rw[hdn];dsimp only;rw[if_neg (by simp[typeHasDict])]
 have go:∀(Q':Option Addr->Shared->Prop),(∀ h1,h1.get? x=some {ox with dict:=some hh.objs.size}->h1.get? hh.objs.size=some {cls:=.type "dict",data:=.dict #[] }->(∀ b o,b≠x->hh.get? b=some o->h1.get? b=some o)->Q' (some hh.objs.size) ⟨h1,g,d,t+1,os⟩) ->
   wpAny (model prog w) A' (do
    let d <- alloc {cls:=.type "dict",data:=.dict #[] }
    update x λo=>{o with dict:=some d}
    dictMade (.ref C) x d) Q' (λ_ _=>False) ⟨hh,g,d,t+1,os⟩:=λQ' q=>by
  have hx1:(hh.push {cls:=.type "dict",data:=.dict #[] }).get? x=some ox:=tu _ hx;refine kS (wpAny_alloc' ?_);refine kS (wpAny_update' hx1 ?_);refine MB (q _ ?_ ?_ λb o hb e=>?_)
  .
   refine NI _ hx1 ?_;have fr:=(Heap.get?_some_iff.mp hx).2;obtain⟨c0,d0,dt,s0⟩:=ox
   cases dt<;>first|rfl|exact fr
  . exact(Heap.get?_update_ne _ _ _ _ hxs.symm).trans (Heap.get?_push_at rfl rfl)
  . exact(Heap.get?_update_ne _ _ _ _ hb).trans (tu _ e)
 have IV:∀ h1,h1.get? x=some {ox with dict:=some hh.objs.size}->h1.get? hh.objs.size=some {cls:=.type "dict",data:=.dict #[] }->(∀ b o,b≠x->hh.get? b=some o->h1.get? b=some o) ->
   wpAny (model prog w) A' (Builtin.ObjectAttr.storeInDict hh.objs.size (.str name t) name v) R (λ_ _=>False) ⟨h1,g,d,t+1,os⟩:=λh1 e1 e2 e3=>by
  have n0:h1.Ns hh.objs.size (λ_=>none):=⟨_,#[],_,e2,rfl,λe he=>absurd he v6,λ_=>rfl⟩;unfold Builtin.ObjectAttr.storeInDict Builtin.ObjectAttr.newKeyGuard;refine kS (MB (kS (wpAny_nsSet1 (Heap.Ns1.of_empty n0) λh2 n2 hs=>?_)));obtain⟨oD,esD,epD,hoD,hdD,hcD⟩:=n2.count (Within.cons name v Within.nil);refine kS (wpAny_lookBehind hoD (by rw[hdD];exact pastItsLine_dict (MH hcD (by rw[MY,NY,sizeLine_eq];omega))) ?_);refine MB (k _ (hq h2 _ ((hs.2 x hxs).trans e1) n2 λb o hb e=>(hs.2 b (MO (MA e))).trans (e3 b o hb e)))
 split
 . rename_i q;rw[notCls,q]at hno;cases hno
 . exact go _ IV
theorem yE{v:Value}{Q:Unit->Shared->Prop}{dx:Addr}{mA:Str->Option Value}{ns:List Str}(S:lx K c C L cd)(X:K.In s.heap)(I:InstAt s.heap x ox C od)(hdx:ox.dict=some dx)(hN:s.heap.Ns1 dx mA)(hw:PySem.Within mA ns)(hz:ns.length<=1000)(hna:findIn K (.ref C) name=some none)
  (hq:∀h' tk,h'.Ns1 dx (λy=>if y=name then some v else mA y)->Heap.SameBut dx s.heap h'->Q () {s with heap:=h',toks:=tk}) :
  wpAny (model prog w) A (setAttr (.ref x) name v) Q E s:=by
 refine pU S X I hna λA' R k=>?_;obtain⟨hh,g,d,t,os⟩:=s;have hx:=I.at_;have hcl:=I.cls;have Lc:=looks_clsIn (M:=model prog w) X S.cls;unfold Builtin.ObjectAttr.storeInOwnDict;refine kS (MB ?_);rw[if_neg (by show ¬ ((Value.ref C == Value.type "module")=true); exact λz=>by cases z)];refine kS ?_;show wpAny _ _ (instanceDict x true) _ _ _;unfold instanceDict;refine kS (Ni hx ?_);rw[hcl];dsimp only;refine kS (Lc.at ?_);rw[S.dct];simp only[Bool.not_true,Bool.false_eq_true,if_false];rw[hdx];refine MB ?_;show wpAny _ _ (Builtin.ObjectAttr.storeInDict dx (.str name t) name v) _ _ _;unfold Builtin.ObjectAttr.storeInDict Builtin.ObjectAttr.newKeyGuard;refine kS (MB (kS (wpAny_nsSet1 hN λh2 n2 hs=>?_)));obtain⟨oD,esD,epD,hoD,hdD,hcD⟩:=n2.count (Within.cons name v hw);refine kS (wpAny_lookBehind hoD (by rw[hdD];exact pastItsLine_dict (MH hcD (by rw[MY,sizeLine_eq];omega))) ?_);exact MB (k _ (hq h2 _ n2 hs))
end
end L2
namespace L2
open PySem PySem.Spec PyProof.Rows
section
variable{X:Cx}{gV:List (Addr×Obj)}{σ:St}{H:Hp}{s:Shared}
theorem IR.reword{a:Addr}{u w:HO}(I:IR X gV σ H s)(h:H a=some u)(hu:¬Fz u)(hw:∀y,u≠.own y)(nw:cg X.prog X.w H s.heap a w)(hw2:∀C dx fs,w≠.ins C dx fs):IR X gV σ (IH H a w) s:=by
 have ne:∀b,H b=none->b≠a:=λb n e=>by subst e;rw[h]at n;cases n
 have nt:∀b xs,H b=some (.tup xs)->b≠a:=λb xs n e=>by subst e;rw[h]at n;cases n;exact hu True.intro
 have nf:∀b o z,H b=some (.frz o z)->b≠a:=λb o z n e=>by subst e;rw[h]at n;cases n;exact hu True.intro
 have no:∀b z,H b=some (.own z)->b≠a:=λb z n e=>by subst e;rw[h]at n;cases n;exact hw _ rfl
 refine⟨I.ok,I.os,I.bare,⟨I.base.keep,I.base.slot,λb ob e n hx=>?_,I.base.there,λb xs e=>?_,λb ob z e=>?_,λb ps e=>?_⟩,I.loc,I.cell,?_,λx c e=>?_,λp hp=>?_,λb z e=>?_,I.len⟩
 . have q:=I.base.free b ob e n hx;rw[ar (ne b q)];exact q
 . have q:=I.base.tups b xs e;rw[ar (nt b xs q)];exact q
 . have q:=I.base.frzs b ob z e;rw[ar (nf b ob z q)];exact q
 . have q:=I.base.tbls b ps e;rw[ar (λz=>by subst z;rw[h]at q;cases q;exact hu True.intro)];exact q
 . rw[ar (ne _ I.free)];exact I.free
 .
  rcases I.freeC x c e with z|⟨hf,o,z⟩
  . exact .inl (by rw[ar (ne _ z)];exact z)
  . exact .inr ⟨hf,o,by rw[ar (nf _ _ _ z)];exact z⟩
 . obtain⟨e,n,r⟩:=I.pin p hp;exact⟨e,by rw[ar (ne _ n)];exact n,r⟩
 .
  by_cases hb:b=a
  . subst hb;rw[aG]at e;cases e;exact nw.stay (λc v _ q=>q) (λc q=>by rw[ar (no c _ q)];exact q) (λc xs q=>by rw[ar (nt c xs q)];exact q) λc ob _ _ q=>by rw[ar (nf c ob _ q)];exact q
  . rw[ar hb]at e;exact(I.hok b z e).stay (λc v _ q=>q) (λc q=>by rw[ar (no c _ q)];exact q) (λc xs q=>by rw[ar (nt c xs q)];exact q) λc ob _ _ q=>by rw[ar (nf c ob _ q)];exact q
theorem IR.freezeL{a:Addr}{xs:List V}(I:IR X gV σ H s)(h:H a=some (.lst xs)):∃o,IR X gV σ (IH H a (.frz o (.lst xs))) s:=by obtain⟨z,its,n,r,e⟩:=id (I.hok a _ h);exact⟨_,I.reword h (λq=>q) (λ_ q=>nomatch q) ⟨e,z,its,n,r,e⟩ (λ_ _ _ q=>nomatch q)⟩
theorem IR.freezeD{a:Addr}{xs:List (IG×V)}(I:IR X gV σ H s)(h:H a=some (.dK xs)):∃o,IR X gV σ (IH H a (.frz o (.dK xs))) s:=by obtain⟨z,y,vs,r,o,es,ep,e,c⟩:=id (I.hok a _ h);exact⟨_,I.reword h (λq=>q) (λ_ q=>nomatch q) ⟨e,z,y,vs,r,o,es,ep,e,c⟩ (λ_ _ _ q=>nomatch q)⟩
end
section
variable{K:PySem.W.Frag}{Pr H:Hp}{σ:St}{Z:Ev}
theorem ay.new(E:ay K Pr H σ Z){p:Addr}{o:HO}(h:H p=none):ay K Pr (IH H p o) σ Z:=by
 have k:∀b u,H b=some u->IH H p o b=some u:=λb u e=>by rw[ar (aQ e h)];exact e
 exact⟨λb u e=>k b u (E.sub b u e),E.nd,E.off,Paired.impMem E.sl λl hl s q=>q.pres (λb u _ e=>k b u e) l λa e=>by
  obtain⟨vs,e,_⟩:=E.at_own (eM.mpr ⟨l,hl,e⟩)
  rw[k _ _ e,e]⟩
theorem bf.new{vs:List V}{ds:List D}(r:bf K H vs ds){p:Addr}{o:HO}(h:H p=none):bf K (IH H p o) vs ds:=r.pres λb u _ e=>by rw[ar (aQ e h)];exact e
theorem Jx.new{v:V}{d:D}(r:Jx K H v d){p:Addr}{o:HO}(h:H p=none):Jx K (IH H p o) v d:=r.pres λb u _ e=>by rw[ar (aQ e h)];exact e
theorem lg:owns (.un::Z)=owns Z:=rfl
theorem aV{a:Addr}{xs:List D}:owns (.own a xs::Z)=a::owns Z:=rfl
theorem ay.cons_d(E:ay K Pr H σ Z){v:V}{x:D}(r:Jx K H v x):ay K Pr H (some v::σ) (.d x::Z):=⟨E.sub,E.nd,E.off,.cons ⟨v,rfl,r⟩ E.sl⟩
theorem ay.cons_un(E:ay K Pr H σ Z){v:Option V}:ay K Pr H (v::σ) (.un::Z):=⟨E.sub,E.nd,E.off,.cons True.intro E.sl⟩
theorem ay.cons_own(E:ay K Pr H σ Z){p:Addr}{vs:List V}{xs:List D}(h:H p=none)(r:bf K H vs xs):ay K Pr (IH H p (.lst vs)) (some (.ref p)::σ) (.own p xs::Z):=by
 have E':=E.new (o:=.lst vs) h;refine⟨E'.sub,?_,λa ha=>?_,.cons ⟨rfl,vs,aG,r.new h⟩ E'.sl⟩
 . rw[aV];refine MQ.mpr ⟨λhm=>?_,E.nd⟩;obtain⟨us,e,_⟩:=E.at_own hm;rw[h]at e;cases e
 .
  rw[aV]at ha;rcases MC.mp ha with rfl|ha
  .
   cases q:Pr a with
   |none=>rfl
   |some u=>rw[E.sub a u q]at h;cases h
  . exact E.off a ha
theorem ay.cons_tup(E:ay K Pr H σ Z){p:Addr}{vs:List V}{xs:List D}(h:H p=none)(r:bf K H vs xs):ay K Pr (IH H p (.tup vs)) (some (.ref p)::σ) (.d (.tup xs)::Z) :=
 (E.new h).cons_d (.tup (IX.of aG) (r.new h))
theorem ay.freeze(E:ay K Pr H σ (.own a xs::Z)){vs:List V}(h:H a=some (.lst vs))(o:Obj):ay K Pr (IH H a (.frz o (.lst vs))) σ (.d (.lst xs)::Z):=by
 have pa:Pr a=none:=E.off a (by rw[aV];exact Mw);have nd:=E.nd;rw[aV]at nd;obtain⟨hn,nd⟩:=MQ.mp nd;have p:m8 H (IH H a (.frz o (.lst vs))):=λb u pu e=>by rw[ar];exact e;rintro rfl;rw[h]at e;cases e;exact pu
 refine⟨λb u e=>?_,nd,λb hb=>E.off b (by rw[aV];exact so _ hb),?_⟩
 . rw[ar];exact E.sub b u e;rintro rfl;rw[pa]at e;cases e
 .
  have sl:=E.sl
  cases sl with
  | cons q t =>
   obtain⟨e,us,e2,r⟩:=q;rw[h]at e2;cases e2;refine .cons ⟨.ref a,e,.lst (.inl ⟨o,aG⟩) (r.pres p)⟩ (Paired.impMem t λl hl s z=>z.pres p l λb hbm=>?_);rw[ar];rintro rfl;exact hn (eM.mpr ⟨l,hl,hbm⟩)
theorem aH(l:L)(Z:Ev):owns (l::Z)=aW l++owns Z:=rfl
theorem fy{k:L}:∀{Z:Ev}{i:Nat}{l:L},Z[i]?=some k->aW l=[]->(owns Z).Perm (aW k++owns (Z.set i l))
 |[],_,_,h,_=>by simp at h
 | _::Z,0,l,h,hl=>by simp at h;subst h;show(owns (_::Z)).Perm (_++owns (l::Z));rw[aH,aH,hl];exact List.Perm.refl _
 | m::Z,i+1,l,h,hl=>by have ih:=fy (i:=i) (Z:=Z) (l:=l) (by simpa using h) hl;show(owns (m::Z)).Perm (aW k++owns (m::Z.set i l));rw[aH,aH];refine(List.Perm.append_left _ ih).trans ?_;rw[<- MV,<- MV];exact List.Perm.append_right _ Nl
theorem vZ{a:Addr}{xs:List D}{Z:Ev}{i:Nat}{l:L}(h:Z[i]?=some (.own a xs))(hl:aW l=[]):(owns Z).Perm (a::owns (Z.set i l)):=fy h hl
theorem sX{Z:Ev}{i:Nat}(l:L)(h:Z[i]?=some .un):(owns (Z.set i l)).Perm (aW l++owns Z):=by
 have hi:i<Z.length:=(Mx.mp h).1;have pm:=fy (Z:=Z.set i l) (i:=i) (k:=l) (l:=.un) (by simp[hi]) rfl;rw[NU]at pm;have e2:Z.set i .un=Z:=by have:=List.set_getElem_self (as:=Z) (i:=i) hi;have e3:Z[i]=.un:=(Mx.mp h).2;rw[e3]at this;exact this
 rw[e2]at pm;exact pm
theorem ay.outL(E:ay K Pr H σ Z){i:Nat}{k:L}{s:Option V}(h:Z[i]?=some k)(hs:σ[i]?=some s):ay K Pr H (s::σ) (k::Z.set i .un):=by have pm:=fy (l:=.un) h rfl;obtain⟨s',hs',q⟩:=Paired.get2 E.sl h;rw[hs]at hs';cases hs';refine⟨E.sub,?_,λb hb=>E.off b (pm.mem_iff.mpr (by rw[aH]at hb;exact hb)),.cons q (Paired.set_r i E.sl λ_ _=>by simp only[aT])⟩;rw[aH];exact pm.nodup_iff.mp E.nd
theorem ay.out(E:ay K Pr H σ Z){i:Nat}{a:Addr}{xs:List D}(h:Z[i]?=some (.own a xs)):ay K Pr H (some (.ref a)::σ) (.own a xs::Z.set i .un):=by
 have pm:=vZ (l:=.un) h rfl;obtain⟨s,hs,q⟩:=Paired.get2 E.sl h;refine⟨E.sub,?_,λb hb=>E.off b (pm.mem_iff.mpr (by rw[aV]at hb;exact hb)),.cons ?_ (Paired.set_r i E.sl λ_ _=>by simp only[aT])⟩
 . rw[aV];exact pm.nodup_iff.mp E.nd
 . obtain⟨_,r⟩:=q;exact⟨rfl,r⟩
theorem ay.back{v:Option V}{l:L}(E:ay K Pr H (v::σ) (l::Z)){i:Nat}(h:Z[i]?=some .un)(hs:σ[i]?=some v):ay K Pr H σ (Z.set i l):=by
 have sl:=E.sl
 cases sl with
 | cons q t =>
  have e1:Z.set i l=(Z.set i l):=rfl;refine⟨E.sub,?_,λb hb=>?_,Paired.set_r i t λa e=>by rw[hs]at e;cases e;exact q⟩
  . exact(sX l h).nodup_iff.mpr E.nd
  . exact E.off b ((sX l h).mem_iff.mp hb)
theorem ay.write(E:ay K Pr H σ (.own a xs::Z)){vs:List V}{ys:List D}(r:bf K H vs ys):ay K Pr (IH H a (.lst vs)) σ (.own a ys::Z):=by
 have pa:Pr a=none:=E.off a (by rw[aV];exact Mw);have nd:=E.nd;rw[aV]at nd;obtain⟨hn,nd'⟩:=MQ.mp nd;obtain⟨us,ha,mu⟩:=E.at_own (a:=a) (by rw[aV];exact Mw);have p:m8 H (IH H a (.lst vs)):=λb u pu e=>by rw[ar];exact e;rintro rfl;rw[ha]at e;cases e;exact mu.no pu
 refine⟨λb u e=>?_,nd,λb hb=>E.off b hb,?_⟩
 . rw[ar];exact E.sub b u e;rintro rfl;rw[pa]at e;cases e
 .
  have sl:=E.sl
  cases sl with
  | cons q t =>
   obtain⟨e,_⟩:=q;refine .cons ⟨e,vs,aG,r.pres p⟩ (Paired.impMem t λl hl s z=>z.pres p l λb hbm=>?_);rw[ar];rintro rfl;exact hn (eM.mpr ⟨l,hl,hbm⟩)
end
noncomputable abbrev W(α:Type):=Ev->(α->Ev->Prop)->Prop
inductive Fl where
 |nx|bk|ct|rt (r:L)
def EL(X:Cx)(gV:List (Addr×Obj))(σ:St)(Pr:Hp)(p4:L->Ev->Prop)(u:Value)(s':Shared):Prop :=
 ∃v H' r Z',IR X gV σ H' s'/\bF v u/\ay X.K Pr H' (some v::σ) (r::Z')/\p4 r Z'
def PL(X:Cx)(e:Expr)(t:W L):Prop :=
 ∀(gV:List (Addr×Obj))(s:Shared)(σ:St)(H Pr:Hp)(Z:Ev)(p4:L->Ev->Prop),IR X gV σ H s->ay X.K Pr H σ Z->t Z p4->wpAny (model X.prog X.w) X.A (eval e X.env) (EL X gV σ Pr p4) X.xe s
def EB(X:Cx)(gV:List (Addr×Obj))(σ:St)(Pr:Hp)(p4:Bool->Ev->Prop)(b:Bool)(s':Shared):Prop :=
 ∃H' Z',IR X gV σ H' s'/\ay X.K Pr H' σ Z'/\p4 b Z'
def PB(X:Cx)(e:Expr)(t:W Bool):Prop :=
 ∀(gV:List (Addr×Obj))(s:Shared)(σ:St)(H Pr:Hp)(Z:Ev)(p4:Bool->Ev->Prop),IR X gV σ H s->ay X.K Pr H σ Z->t Z p4->wpAny (model X.prog X.w) X.A (isTrue e X.env (eval e X.env)) (EB X gV σ Pr p4) X.xe s
def EA(X:Cx)(gV:List (Addr×Obj))(σ:St)(Pr:Hp)(bs:List (Option Nat))(p4:List L->Ev->Prop)(us:List Value)(s':Shared):Prop :=
 ∃vs H' ls Z',IR X gV σ H' s'/\bL vs us/\vs.length=ls.length/\vs.length=bs.length/\ay X.K Pr H' (vs.map some++σ) (ls++Z')/\(∀(k i:Nat),bs[k]?=some (some i)->ls[k]?=some L.un/\∃v,vs[k]?=some v/\σ[i]?=some (some v))/\p4 ls Z'
def Jy(X:Cx)(es:List Expr)(bs:List (Option Nat))(t:W (List L)):Prop :=
 ∀(pos:Pos)(gV:List (Addr×Obj))(s:Shared)(σ:St)(H Pr:Hp)(Z:Ev)(p4:List L->Ev->Prop),IR X gV σ H s->ay X.K Pr H σ Z->t Z p4 ->
  wpAny (model X.prog X.w) X.A (spliced (backTo pos (starEach es X.env))) (EA X gV σ Pr bs p4) X.xe s
def SM(X:Cx)(gV:List (Addr×Obj))(Pr:Hp)(p4:Fl->Ev->Prop)(f:Flow)(s':Shared):Prop :=
 match f with
 |.next=>∃σ' H' Z',IR X gV σ' H' s'/\ay X.K Pr H' σ' Z'/\p4 .nx Z'
 |.brk=>∃σ' H' Z',IR X gV σ' H' s'/\ay X.K Pr H' σ' Z'/\p4 .bk Z'
 |.cont=>∃σ' H' Z',IR X gV σ' H' s'/\ay X.K Pr H' σ' Z'/\p4 .ct Z'
 |.ret u=>∃v σ' H' r Z' τ,IR X gV σ' H' s'/\bF v u/\ay X.K Pr H' (some v::τ) (r::Z')/\p4 (.rt r) Z'
def PM(X:Cx)(st:Stmt)(t:W Fl):Prop :=
 ∀(gV:List (Addr×Obj))(s:Shared)(σ:St)(H Pr:Hp)(Z:Ev)(p4:Fl->Ev->Prop),IR X gV σ H s->ay X.K Pr H σ Z->t Z p4->wpAny (model X.prog X.w) X.A (exec st X.env) (SM X gV Pr p4) X.xe s
def Jz(X:Cx)(st:List Stmt)(t:W Fl):Prop :=
 ∀(gV:List (Addr×Obj))(s:Shared)(σ:St)(H Pr:Hp)(Z:Ev)(p4:Fl->Ev->Prop),IR X gV σ H s->ay X.K Pr H σ Z->t Z p4->wpAny (model X.prog X.w) X.A (execs st X.env) (SM X gV Pr p4) X.xe s
section
variable{X:Cx}{e a b:Expr}{pos:Pos}{ta tb:W L}
theorem PL.of{t:TE}{u:W L}(h:PE X e t)(q:∀σ H Pr Z p4,ay X.K Pr H σ Z->u Z p4->t σ H λv H'=>∃r Z',ay X.K Pr H' (some v::σ) (r::Z')/\p4 r Z'):PL X e u :=
 λgV s σ H Pr Z p4 I E hu=>IT (h gV s σ H _ I (q σ H Pr Z p4 E hu)) λu s1 ⟨v,H1,I1,r1,r,Z',E1,p⟩=>⟨v,H1,r,Z',I1,r1,E1,p⟩
mutual
noncomputable def bq:L->Option D
 |.un=>none
 |.d x=>some x
 |.own _ xs=>some (.lst xs)
 |.bx none ls=>(bP ls).map .tup
 |.bx (some _) ls=>(bP ls).map .lst
 |.dic _ _=>none
noncomputable def bP:List L->Option (List D)
 |[]=>some []
 | l::ls=>match bq l,bP ls with
  |some x,some xs=>some (x::xs)
  |_,_=>none
end
def dZ:Option D->(D->Prop)->Prop
 |some x,k=>k x
 |none,_=>False
theorem uJ{o:Option D}{k:D->Prop}(h:dZ o k):∃x,o=some x/\k x:=by
 cases o with
 |some x=>exact⟨x,rfl,h⟩
 |none=>exact h.elim
def vj(a:Option Addr)(ls:List L)(k:D->Prop):Prop:=dZ (bq (.bx a ls)) k
def JA:L->(D->Prop)->Prop
 |.un,_=>False
 |.d x,k=>k x
 |.own _ xs,k=>k (.lst xs)
 |.bx a ls,k=>vj a ls k
 |.dic _ _,_=>False
theorem rF{a:Option Addr}{ls:List L}{k:D->Prop}(h:vj a ls k):∃x,bq (.bx a ls)=some x/\k x:=uJ h
def yF(ls:List L)(k:List D->Prop):Prop:=∃xs,bP ls=some xs/\k xs
theorem Dy(ls:List L)(k:D->Prop):vj none ls k=yF ls λxs=>k (.tup xs):=by
 unfold vj yF;simp only[bq]
 cases bP ls with
 |none=>simp[dZ]
 |some xs=>simp[dZ]
theorem Dz(a:Addr)(ls:List L)(k:D->Prop):vj (some a) ls k=yF ls λxs=>k (.lst xs):=by
 unfold vj yF;simp only[bq]
 cases bP ls with
 |none=>simp[dZ]
 |some xs=>simp[dZ]
theorem yG(k:List D->Prop):yF [] k=k []:=by unfold yF;simp[bP]
theorem A8(l:L)(k:D->Prop):JA l k=∃x,bq l=some x/\k x:=by
 cases l with
 |un=>simp[JA,bq]
 |d x=>simp[JA,bq]
 |own a xs=>simp[JA,bq]
 | bx a ls =>
  show dZ _ k=_
  cases bq (.bx a ls)with
  |none=>simp[dZ]
  |some x=>simp[dZ]
 |dic a kvs=>simp[JA,bq]
theorem v5(l:L)(ls:List L)(k:List D->Prop):yF (l::ls) k=JA l λx=>yF ls λxs=>k (x::xs):=by
 rw[A8];unfold yF;simp only[bP]
 cases bq l with
 |none=>simp
 | some x =>
  cases bP ls with
  |none=>simp
  |some xs=>simp
theorem c9{K:PySem.W.Frag}{H:Hp}:∀{vs:List V}{ls:List L},bG K H vs ls↔Paired (aT K H) (vs.map some) ls
 |[],[]=>⟨λ_=>.nil,λ_=>by simp only[bG]⟩
 | v::vs,l::ls=>by
  simp only[bG,MN];constructor
  . rintro⟨w,us,e,h1,h2⟩;cases e;exact .cons h1 (c9.mp h2)
  .
   intro h
   cases h with
   |cons q t=>exact⟨v,vs,rfl,q,c9.mpr t⟩
 | [],l::ls=>by
  simp only[bG,List.map_nil];constructor
  . rintro⟨w,us,e,_⟩;cases e
  . intro h;cases h
 | v::vs,[]=>by
  simp only[bG,MN];constructor
  . intro h;cases h
  . intro h;cases h
theorem rG{K:PySem.W.Frag}{H:Hp}:∀{vs:List V}{xs:List D},Paired (aT K H) (vs.map some) (xs.map .d)->bf K H vs xs
 |[],[],_=>.nil
 | v::vs,x::xs,h=>by
  simp only[MN]at h
  cases h with
  | cons q t =>
   simp only[aT]at q;obtain⟨w,e,r⟩:=q;cases e;exact .cons r (rG t)
 |[],_::_,h=>by simp only[MN,List.map_nil]at h;cases h
 |_::_,[],h=>by simp only[MN,List.map_nil]at h;cases h
theorem bG.len{K:PySem.W.Frag}{H:Hp}{vs:List V}{ls:List L}(h:bG K H vs ls):vs.length=ls.length:=by have:=Paired.length (c9.mp h);simpa using this
theorem fX:∀{ls:List L}{xs:List D},bP ls=some xs->xs.length=ls.length
 |[],_,h=>by simp[bP]at h;subst h;rfl
 | l::ls,xs,h=>by
  simp only[bP]at h;split at h
  . rename_i x ys h1 h2;cases h;simp[fX h2]
  . cases h
theorem ay.openT{K:PySem.W.Frag}{Pr H:Hp}{σ:St}{Z:Ev}{v:Option V}{ls:List L}(E:ay K Pr H (v::σ) (.bx none ls::Z)):∃a vs,v=some (.ref a)/\IX K H a vs/\vs.length=ls.length/\ay K Pr H (vs.map some++σ) (ls++Z):=by
 have sl:=E.sl
 cases sl with
 | cons q t =>
  simp only[aT]at q;obtain⟨a,vs,e,h,r⟩:=q;have ow:owns (.bx none ls::Z)=owns (ls++Z):=by rw[aH,aE];simp only[aW,Option.toList,N6,dY]
  exact⟨a,vs,e,h,r.len,E.sub,by rw[<- ow];exact E.nd,λb hb=>E.off b (by rw[ow];exact hb),Paired.app (c9.mp r) t⟩
theorem ay.openO{K:PySem.W.Frag}{Pr H:Hp}{σ:St}{Z:Ev}{v:Option V}{a:Addr}{ls:List L}(E:ay K Pr H (v::σ) (.bx (some a) ls::Z)):∃vs,v=some (.ref a)/\H a=some (.lst vs)/\vs.length=ls.length/\a∉owns (ls++Z)/\Pr a=none/\ay K Pr H (vs.map some++σ) (ls++Z):=by
 have sl:=E.sl
 cases sl with
 | cons q t =>
  simp only[aT]at q;obtain⟨e,vs,h,r⟩:=q;have ow:owns (.bx (some a) ls::Z)=a::owns (ls++Z):=by rw[aH,aE];simp only[aW,Option.toList,Ol,N6,dY]
  have nd:=E.nd;rw[ow]at nd;obtain⟨n1,n2⟩:=MQ.mp nd;exact⟨vs,e,h,r.len,n1,E.off a (by rw[ow];exact Mw),E.sub,n2,λb hb=>E.off b (by rw[ow];exact so _ hb),Paired.app (c9.mp r) t⟩
theorem oI(xs:List D):owns (xs.map .d)=[]:=by
 induction xs with
 |nil=>rfl
 |cons x xs ih=>rw[MN,aH,ih];rfl
def lh(H H':Hp)(S:List Addr):Prop:=m8 H H'/\(∀b,b∉S->H' b=H b)/\∀a∈S,∀vs,H a=some (.lst vs)->∃o,H' a=some (.frz o (.lst vs))
theorem lh.refl(H:Hp):lh H H []:=⟨λ_ _ _ e=>e,λ_ _=>rfl,λ_ h=>by simp at h⟩
mutual
theorem DA:∀(l:L){gV:List (Addr×Obj)}{σ0:St}{s:Shared}{Pr H:Hp}{σ:St}{Z:Ev}{v:Option V}{x:D},IR X gV σ0 H s->ay X.K Pr H (v::σ) (l::Z)->bq l=some x->∃H',IR X gV σ0 H' s/\ay X.K Pr H' (v::σ) (.d x::Z)/\lh H H' (aW l)
 |.un,_,_,_,_,_,_,_,_,_,_,_,h=>by simp[bq]at h
 |.dic _ _,_,_,_,_,_,_,_,_,_,_,_,h=>by simp[bq]at h
 | .d y,_,_,_,_,_,_,_,_,_,I,E,h=>by
  simp only[bq,M0]at h
  subst h
  exact⟨_,I,E,lh.refl _⟩
 | .own a xs,_,_,_,_,H,σ,Z,v,_,I,E,h=>by
  simp only[bq,M0]at h
  subst h
  have sl:=E.sl
  cases sl with
  | cons q t =>
   simp only[aT]at q
   obtain⟨e0,vs,ha,r⟩:=q
   obtain⟨o,I'⟩:=I.freezeL ha
   refine⟨_,I',E.freeze ha o,λb u pu eb=>?_,λb hb=>?_,λb hb vs' eb=>?_⟩
   .
    rw[ar];exact eb
    rintro rfl
    rw[ha]at eb;cases eb;exact pu
   .
    rw[ar]
    rintro rfl
    exact hb (by simp[aW])
   .
    have e:b=a:=by simpa[aW]using hb
    subst e
    rw[ha]at eb;cases eb
    exact⟨o,aG⟩
 | .bx none ls,_,_,_,Pr,H,σ,Z,v,x,I,E,h=>by
  simp only[bq,Option.map_eq_some_iff]at h
  obtain⟨xs,h,rfl⟩:=h
  obtain⟨a,vs,rfl,ha,hl,E1⟩:=E.openT
  obtain⟨H',I',E',F⟩:=A9 ls hl I E1 h
  have hxl:=fX h
  obtain⟨s1,s2⟩:=Paired.unapp (by simp[hl,hxl]) E'.sl
  refine⟨H',I',(E'.drop (by simp[hl,hxl])).cons_d (.tup (ha.pres F.1) (rG s1)),F.1,λb hb=>F.2.1 b ?_,λb hb=>F.2.2 b ?_⟩
  .
   simpa[aW,dY]using hb
  .
   simpa[aW,dY]using hb
 | .bx (some a) ls,_,_,_,Pr,H,σ,Z,v,x,I,E,h=>by
  simp only[bq,Option.map_eq_some_iff]at h
  obtain⟨xs,h,rfl⟩:=h
  obtain⟨vs,rfl,ha,hl,hn,hp,E1⟩:=E.openO
  obtain⟨H',I',E',F⟩:=A9 ls hl I E1 h
  have hxl:=fX h
  have hal:a∉owns ls:=λz=>hn (by rw[aE];exact MJ _ z)
  have haρ:a∉owns Z:=λz=>hn (by rw[aE];exact MM _ z)
  have ha':H' a=some (.lst vs):=(F.2.1 a hal).trans ha
  obtain⟨s1,s2⟩:=Paired.unapp (by simp[hl,hxl]) E'.sl
  have E2:=E'.drop (by simp[hl,hxl])
  have E3:ay X.K Pr H' (some (.ref a)::σ) (.own a xs::Z):=by
   refine⟨E2.sub,?_,λb hb=>?_,.cons ?_ E2.sl⟩
   .
    rw[aV];exact MQ.mpr ⟨haρ,E2.nd⟩
   .
    rw[aV]at hb
    rcases MC.mp hb with z|z
    .
     rw[z];exact hp
    .
     exact E2.off b z
   .
    unfold aT
    exact⟨rfl,vs,ha',rG s1⟩
  obtain⟨o,I2⟩:=I'.freezeL ha'
  refine⟨_,I2,E3.freeze ha' o,λb u pu e=>?_,λb hb=>?_,λb hb vs' eb=>?_⟩
  .
   rw[ar];exact F.1 b u pu e
   rintro rfl
   rw[ha]at e;cases e;exact pu
  .
   have hb':b≠a/\b∉owns ls:=by simpa[aW,dY,not_or]using hb
   rw[ar hb'.1]
   exact F.2.1 b hb'.2
  .
   by_cases hba:b=a
   .
    subst hba
    rw[ha]at eb;cases eb
    exact⟨o,aG⟩
   .
    have hb':b∈owns ls:=by
     rcases(by simpa[aW,dY]using hb:b=a∨b∈owns ls)with z|z
     .
      exact absurd z hba
     .
      exact z
    rw[ar hba]
    exact F.2.2 b hb' vs' eb
theorem A9:∀(ls:List L){gV:List (Addr×Obj)}{σ0:St}{s:Shared}{Pr H:Hp}{σ:St}{Z:Ev}{vs:List V}{xs:List D},vs.length=ls.length->IR X gV σ0 H s->ay X.K Pr H (vs.map some++σ) (ls++Z)->bP ls=some xs->∃H',IR X gV σ0 H' s/\ay X.K Pr H' (vs.map some++σ) (xs.map .d++Z)/\lh H H' (owns ls)
 | [],_,_,_,_,_,_,_,vs,xs,hl,I,E,h=>by
  simp only[bP,M0]at h
  subst h
  cases vs with
  |nil=>exact⟨_,I,E,lh.refl _⟩
  |cons _ _=>simp at hl
 | l::ls,_,_,_,Pr,H,σ,Z,vs,xs,hl,I,E,h=>by
  simp only[bP]at h
  split at h
  rotate_left
  .
   cases h
  rename_i x ys h1 h2
  cases h
  cases vs with
  |nil=>simp at hl
  | cons v vs =>
   have hl':vs.length=ls.length:=by simpa using hl
   obtain⟨H1,I1,E1,F1⟩:=DA l I E h1
   have E2:ay X.K (a9 H1 (ls++Z)) H1 (vs.map some++σ) (ls++Z):=(E1.drop (τ:=[some v]) (lam:=[.d x]) rfl).wide
   obtain⟨H2,I2,E3,F2⟩:=A9 ls hl' I1 E2 h2
   have hyl:=fX h2
   have E4:ay X.K Pr H2 (some v::(vs.map some++σ)) (.d x::(ys.map .d++Z)):=by
    have z:=ay.step (τ:=[some v]) (lam:=[.d x]) (w:=[]) (μ:=[]) (σ':=vs.map some++σ) (Z':=ys.map .d++Z) E1 rfl E3 rfl
    exact z
   refine⟨H2,I2,E4,λb u pu e=>F2.1 b u pu (F1.1 b u pu e),λb hb=>?_,λb hb vs' eb=>?_⟩
   .
    rw[aH]at hb
    rw[F2.2.1 b (λz=>hb (MM _ z)),F1.2.1 b (λz=>hb (MJ _ z))]
   .
    rw[aH]at hb
    rcases ML.mp hb with z|z
    .
     obtain⟨o,eo⟩:=F1.2.2 b z vs' eb
     exact⟨o,F2.1 b _ True.intro eo⟩
    .
     have hn:b∉aW l:=λz'=>by
      have nd:=E.nd
      rw[Ol,aH,aE]at nd
      exact(MX.mp nd).2.2 b z' b (MJ _ z) rfl
     exact F2.2.2 b z vs' ((F1.2.1 b hn).trans eb)
end
theorem EL.frz{gV:List (Addr×Obj)}{σ:St}{Pr:Hp}{p4:D->Ev->Prop}{u:Value}{s':Shared}(h:EL X gV σ Pr (λr Z=>JA r λx=>p4 x Z) u s') :
  ∃v H' x Z',IR X gV σ H' s'/\bF v u/\ay X.K Pr H' (some v::σ) (.d x::Z')/\p4 x Z':=by
 obtain⟨v,H',r,Z',I,rv,E,p⟩:=h
 cases r with
 |un=>exact p.elim
 |d x=>exact⟨v,H',x,Z',I,rv,E,p⟩
 | own a xs =>
  obtain⟨H2,I2,E2,_⟩:=DA (.own a xs) I E rfl;exact⟨v,H2,.lst xs,Z',I2,rv,E2,p⟩
 | bx a ls =>
  obtain⟨x,ex,p⟩:=rF p;obtain⟨H2,I2,E2,_⟩:=DA (.bx a ls) I E ex;exact⟨v,H2,x,Z',I2,rv,E2,p⟩
 |dic a kvs=>exact p.elim
def bu(t:W L):W L:=λZ p4=>t Z λr Z1=>JA r λx=>p4 (.d x) Z1
theorem aC{t:W L}(h:PL X e t):PL X e (bu t):=λgV s σ H Pr Z p4 I E ht =>
 IT (h gV s σ H Pr Z _ I E ht) λu s1 q=>by obtain⟨v,H',x,Z',I',rv,E',p⟩:=EL.frz (p4:=λx Z=>p4 (.d x) Z) q;exact⟨v,H',.d x,Z',I',rv,E',p⟩
theorem ay.head_d{K:PySem.W.Frag}{Pr H:Hp}{v:Option V}{σ:St}{x:D}{Z:Ev}(E:ay K Pr H (v::σ) (.d x::Z)):∃w,v=some w/\Jx K H w x:=by
 have sl:=E.sl
 cases sl with
 |cons q t=>exact q
theorem ay.tail{K:PySem.W.Frag}{Pr H:Hp}{v:Option V}{σ:St}{l:L}{Z:Ev}(E:ay K Pr H (v::σ) (l::Z)):ay K Pr H σ Z:=ay.drop (τ:=[v]) (lam:=[l]) E rfl
theorem two{gV:List (Addr×Obj)}{s:Shared}{σ:St}{H Pr:Hp}{Z:Ev}{R:D->D->Ev->Prop}(ha:PL X a ta)(hb:PL X b tb)(I:IR X gV σ H s)(E:ay X.K Pr H σ Z)
  (h:ta Z λx Z1=>JA x λdx=>tb Z1 λy Z2=>JA y λdy=>R dx dy Z2) {α:Type} {Q:α->Shared->Prop} {f:Value->Value->Sem α}
  (hf:∀v u s2 x y H2 dx dy Z2,IR X gV σ H2 s2->bF x v->bF y u->ay X.K Pr H2 (some y::some x::σ) (.d dy::.d dx::Z2)->Jx X.K H2 x dx->Jx X.K H2 y dy->R dx dy Z2->wpAny (model X.prog X.w) X.A (f v u) Q X.xe s2) :
  wpAny (model X.prog X.w) X.A (eval a X.env) (λv s₁=>wpAny (model X.prog X.w) X.A (eval b X.env) (λu s₂=>wpAny (model X.prog X.w) X.A (f v u) Q X.xe s₂) X.xe s₁) X.xe s:=by
 refine IT (ha gV s σ H Pr Z _ I E h) λv s1 q=>?_;obtain⟨x,H1,dx,Z1,I1,r1,E1,q1⟩:=EL.frz (p4:=λdx Z1=>tb Z1 λy Z2=>JA y λdy=>R dx dy Z2) q;refine IT (hb gV s1 σ H1 _ Z1 _ I1 E1.tail.wide q1) λu s2 q=>?_;obtain⟨y,H2,dy,Z2,I2,r2,E2,q2⟩:=EL.frz (p4:=λdy Z2=>R dx dy Z2) q;have E3:ay X.K Pr H2 (some y::some x::σ) (.d dy::.d dx::Z2):=ay.step (τ:=[some x]) (lam:=[.d dx]) (w:=[some y]) (μ:=[.d dy]) E1 rfl E2 rfl;obtain⟨_,e1,p1⟩:=E3.head_d;obtain⟨_,e2,p2⟩:=E3.tail.head_d;cases e1;cases e2;exact hf v u s2 x y H2 dx dy Z2 I2 r1 r2 E3 p2 p1 q2
abbrev JB:=D->D->(L->Prop)->Prop
def JC(X:Cx)(f:Value->Value->Sem Value)(op:JB):Prop :=
 ∀(gV:List (Addr×Obj))(s:Shared)(σ:St)(H Pr:Hp)(Z:Ev)(x y:V)(v u:Value)(dx dy:D)(p4:L->Prop),IR X gV σ H s->bF x v->bF y u->ay X.K Pr H σ Z->Jx X.K H x dx->Jx X.K H y dy->op dx dy p4 ->
  wpAny (model X.prog X.w) X.A (f v u) (λw s'=>∃z H' r,IR X gV σ H' s'/\bF z w/\ay X.K Pr H' (some z::σ) (r::Z)/\p4 r) X.xe s
theorem JC.of{f:Value->Value->Sem Value}{r:R2}{op:JB}(h:Jc X f r)(q:∀σ H Pr Z x y dx dy p4,ay X.K Pr H σ Z->Jx X.K H x dx->Jx X.K H y dy->op dx dy p4->r x y H λz H'=>∃r,ay X.K Pr H' (some z::σ) (r::Z)/\p4 r):JC X f op :=
 λgV s σ H Pr Z x y v u dx dy p4 I rx ry E px py ho=>IT (h gV s σ H x y v u _ I rx ry (q σ H Pr Z x y dx dy p4 E px py ho)) λw s' ⟨z,H',I',rz,r,E',p⟩=>⟨z,H',r,I',rz,E',p⟩
theorem JC.or{f:Value->Value->Sem Value}{o1 o2:JB}(h1:JC X f o1)(h2:JC X f o2):JC X f (λx y p=>o1 x y p∨o2 x y p) :=
 λgV s σ H Pr Z x y v u dx dy p4 I rx ry E px py ho=>ho.elim (h1 gV s σ H Pr Z x y v u dx dy p4 I rx ry E px py) (h2 gV s σ H Pr Z x y v u dx dy p4 I rx ry E px py)
theorem JC.imp{f:Value->Value->Sem Value}{o1 o2:JB}(h1:JC X f o1)(h:∀x y p,o2 x y p->o1 x y p):JC X f o2 :=
 λgV s σ H Pr Z x y v u dx dy p4 I rx ry E px py ho=>h1 gV s σ H Pr Z x y v u dx dy p4 I rx ry E px py (h _ _ _ ho)
def aK(op:JB)(ta tb:W L):W L:=λZ p4=>ta Z λx Z1=>JA x λdx=>tb Z1 λy Z2=>JA y λdy=>op dx dy λr=>p4 r Z2
theorem aD{op:Operator}{o:JB}(ho:JC X (binaryOp op) o)(ha:PL X a ta)(hb:PL X b tb):PL X (.BinOp a op b pos) (aK o ta tb):=λgV s σ H Pr Z p4 I E h =>
 wpAny_BinOp (two (R:=λdx dy Z2=>o dx dy λr=>p4 r Z2) ha hb I E h λv u s2 x y H2 dx dy Z2 I2 r1 r2 E2 p1 p2 q =>
  IT (ho gV s2 σ H2 Pr Z2 x y v u dx dy _ I2 r1 r2 E2.tail.tail p1 p2 q) λw s3 ⟨z,H3,r,I3,rz,E3,p⟩=>⟨z,H3,r,Z2,I3,rz,E3,p⟩)
theorem gD{op:CmpOp}{o:JB}(ho:JC X (compareOp op) o)(ha:PL X a ta)(hb:PL X b tb)(hm:behindInMarks op b=false):PL X (.Compare a [op] [b] pos) (aK o ta tb):=λgV s σ H Pr Z p4 I E h =>
 wpAny_Compare1 (two (R:=λdx dy Z2=>o dx dy λr=>p4 r Z2) ha hb I E h λv u s2 x y H2 dx dy Z2 I2 r1 r2 E2 p1 p2 q =>
  IT (ho gV s2 σ H2 Pr Z2 x y v u dx dy _ I2 r1 r2 E2.tail.tail p1 p2 q) λw s3 ⟨z,H3,r,I3,rz,E3,p⟩=>⟨z,H3,r,Z2,I3,rz,E3,p⟩) hm
def wC(x:D):W L:=λZ p4=>p4 (.d x) Z
theorem ah {i j pos}:PL X (.Constant (.int i) j pos) (wC (.int i)):=PL.of Ai λσ H Pr Z p4 E h=>⟨_,_,E.cons_d (.int i),h⟩
theorem gZ {b j pos}:PL X (.Constant (.bool b) j pos) (wC (.bl b)):=PL.of FJ λσ H Pr Z p4 E h=>⟨_,_,E.cons_d (.bl b),h⟩
theorem bX {j pos}:PL X (.Constant .none j pos) (wC .non):=PL.of C8 λσ H Pr Z p4 E h=>⟨_,_,E.cons_d .non,h⟩
theorem bz {x j pos}:PL X (.Constant (.str x) j pos) (wC (.str x)):=PL.of vA λσ H Pr Z p4 E h=>⟨_,_,E.cons_d (.str x),h⟩
def DB(o:Option L)(i:Nat)(Z:Ev)(p4:L->Ev->Prop):Prop:=match o with
 |some (.d x)=>p4 (.d x) Z
 |some (.own _ xs)=>p4 (.d (.lst xs)) (Z.set i (.d (.lst xs)))
 |some (.bx a ls)=>vj a ls λx=>p4 (.d x) (Z.set i (.d x))
 |_=>False
def av(i:Nat):W L:=λZ p4=>DB Z[i]? i Z p4
theorem DC(x:D)(i:Nat)(Z:Ev)(p4:L->Ev->Prop):DB (some (.d x)) i Z p4=p4 (.d x) Z:=(rfl)
theorem yH(a:Addr)(xs:List D)(i:Nat)(Z:Ev)(p4:L->Ev->Prop):DB (some (.own a xs)) i Z p4=p4 (.d (.lst xs)) (Z.set i (.d (.lst xs))):=(rfl)
theorem Ba(a:Option Addr)(ls:List L)(i:Nat)(Z:Ev)(p4:L->Ev->Prop):DB (some (.bx a ls)) i Z p4=vj a ls λx=>p4 (.d x) (Z.set i (.d x)):=(rfl)
theorem ay.slot{K:PySem.W.Frag}{Pr H:Hp}{σ:St}{Z:Ev}{i:Nat}{l:L}(E:ay K Pr H σ Z)(h:Z[i]?=some l):∃s,σ[i]?=some s/\aT K H s l:=Paired.get2 E.sl h
theorem af(i:Nat){x:Str}{pos:Pos}(hN:X.N[i]?=some x:=by rfl)(hv:IP X.env.scope x:=by first | exact Or.inl rfl | exact Or.inr (Or.inl rfl) | exact Or.inr (Or.inr rfl)) (hd:(x == ("__debug__" : Str))=false:=by decide)
  (hcd:(x == ("__classdict__" : Str))=false:=by decide):PL X (.Name x pos) (av i):=by
 intro gV s σ H Pr Z p4 I E h;unfold av DB at h
 cases q:Z[i]? with
 |none=>rw[q]at h;exact h.elim
 | some l =>
  rw[q]at h;obtain⟨sv,hs,sl⟩:=E.slot q
  cases l with
  |un=>exact h.elim
  |dic a kvs=>exact h.elim
  | d y =>
   obtain⟨v,rfl,r⟩:=sl;exact IT (cm hN hv hd hcd gV s σ H (λw H'=>w=v/\H'=H) I ⟨v,hs,rfl,rfl⟩) λu s1 ⟨w,H1,I1,r1,e1,e2⟩=>by subst e1 e2;exact⟨w,H1,_,Z,I1,r1,E.cons_d r,h⟩
  | own a xs =>
   obtain⟨rfl,vs,ha,r⟩:=sl;refine IT (cm hN hv hd hcd gV s σ H (λw H'=>w=.ref a/\H'=H) I ⟨.ref a,hs,rfl,rfl⟩) λu s1 ⟨w,H1,I1,r1,e1,e2⟩=>?_;subst e1 e2;obtain⟨o,I2⟩:=I1.freezeL ha;have E2:=(E.out q).freeze ha o;have hi:i<Z.length:=(Mx.mp q).1;have E3:=E2.back (i:=i) (by simp[hi]) hs;rw[NU]at E3;obtain⟨_,e,p⟩:=E2.head_d;cases e;exact⟨_,_,_,_,I2,r1,E3.cons_d p,h⟩
  | bx a ls =>
   obtain⟨y,ey,h⟩:=rF h
   have hv':∃b,sv=some (.ref b):=by
    cases a with
    |none=>simp only[aT]at sl;obtain⟨b,_,e,_⟩:=sl;exact⟨b,e⟩
    |some b=>simp only[aT]at sl;exact⟨b,sl.1⟩
   obtain⟨b,rfl⟩:=hv';refine IT (cm hN hv hd hcd gV s σ H (λw H'=>w=.ref b/\H'=H) I ⟨.ref b,hs,rfl,rfl⟩) λu s1 ⟨w,H1,I1,r1,e1,e2⟩=>?_;subst e1 e2;obtain⟨H2,I2,E2,_⟩:=DA (.bx a ls) I1 (E.outL q hs) ey;have hi:i<Z.length:=(Mx.mp q).1;have E3:=E2.back (i:=i) (by simp[hi]) hs;rw[NU]at E3;obtain⟨_,e,p⟩:=E2.head_d;cases e;exact⟨_,_,_,_,I2,r1,E3.cons_d p,h⟩
def DD(o:Option L)(i:Nat)(Z:Ev)(p4:L->Ev->Prop):Prop:=match o with
 |some (.d x)=>p4 (.d x) Z
 |some (.own a xs)=>p4 (.own a xs) (Z.set i .un)
 |some (.bx a ls)=>p4 (.bx a ls) (Z.set i .un)
 |_=>False
def v7(i:Nat):W L:=λZ p4=>DD Z[i]? i Z p4
theorem DE(x:D)(i:Nat)(Z:Ev)(p4:L->Ev->Prop):DD (some (.d x)) i Z p4=p4 (.d x) Z:=(rfl)
theorem yI(a:Addr)(xs:List D)(i:Nat)(Z:Ev)(p4:L->Ev->Prop):DD (some (.own a xs)) i Z p4=p4 (.own a xs) (Z.set i .un):=(rfl)
theorem Bb(a:Option Addr)(ls:List L)(i:Nat)(Z:Ev)(p4:L->Ev->Prop):DD (some (.bx a ls)) i Z p4=p4 (.bx a ls) (Z.set i .un):=(rfl)
theorem v8(i:Nat){x:Str}{pos:Pos}(hN:X.N[i]?=some x:=by rfl)(hv:IP X.env.scope x:=by first | exact Or.inl rfl | exact Or.inr (Or.inl rfl) | exact Or.inr (Or.inr rfl)) (hd:(x == ("__debug__" : Str))=false:=by decide)
  (hcd:(x == ("__classdict__" : Str))=false:=by decide):PL X (.Name x pos) (v7 i):=by
 intro gV s σ H Pr Z p4 I E h;unfold v7 DD at h
 cases q:Z[i]? with
 |none=>rw[q]at h;exact h.elim
 | some l =>
  rw[q]at h;obtain⟨sv,hs,sl⟩:=E.slot q
  cases l with
  |un=>exact h.elim
  |dic a kvs=>exact h.elim
  | d y =>
   obtain⟨v,rfl,r⟩:=sl;exact IT (cm hN hv hd hcd gV s σ H (λw H'=>w=v/\H'=H) I ⟨v,hs,rfl,rfl⟩) λu s1 ⟨w,H1,I1,r1,e1,e2⟩=>by subst e1 e2;exact⟨w,H1,_,Z,I1,r1,E.cons_d r,h⟩
  | own a xs =>
   obtain⟨rfl,vs,ha,r⟩:=sl;refine IT (cm hN hv hd hcd gV s σ H (λw H'=>w=.ref a/\H'=H) I ⟨.ref a,hs,rfl,rfl⟩) λu s1 ⟨w,H1,I1,r1,e1,e2⟩=>?_;subst e1 e2;exact⟨_,_,_,_,I1,r1,E.out q,h⟩
  | bx a ls =>
   have hv':∃b,sv=some (.ref b):=by
    cases a with
    |none=>simp only[aT]at sl;obtain⟨b,_,e,_⟩:=sl;exact⟨b,e⟩
    |some b=>simp only[aT]at sl;exact⟨b,sl.1⟩
   obtain⟨b,rfl⟩:=hv';refine IT (cm hN hv hd hcd gV s σ H (λw H'=>w=.ref b/\H'=H) I ⟨.ref b,hs,rfl,rfl⟩) λu s1 ⟨w,H1,I1,r1,e1,e2⟩=>?_;subst e1 e2;exact⟨_,_,_,_,I1,r1,E.outL q hs,h⟩
theorem Bc{x:Str}{v:V}{u:Value}{y:D}{pos:Pos}(hg:Gl X x)(hm:X.mg x=some u)(r:bF v u)(hy:∀ H,Jx X.K H v y) (hd:(x == ("__debug__" : Str))=false:=by decide):PL X (.Name x pos) (wC y) :=
 PL.of (rg hg hm r hd) λσ H Pr Z p4 E h=>⟨_,_,E.cons_d (hy H),h⟩
def vk:L->(Bool->Prop)->Prop
 |.d (.bl b),k=>k b
 |_,_=>False
def aY(t:W L):W Bool:=λZ p4=>t Z λr Z1=>vk r λb=>p4 b Z1
theorem l8{r:L}{k:Bool->Prop}(h:vk r k):∃b,r=.d (.bl b)/\k b:=by
 cases r with
 | d x=>cases x with
  |bl b=>exact⟨b,rfl,h⟩
  |_=>exact h.elim
 |_=>exact h.elim
theorem cn{t:W L}(h:PL X e t)(he:∀whole,isTrue e X.env whole=(do let v <- whole;standAt e.pos;holding [v] (truthy v)):=by intro _;rfl):PB X e (aY t):=by intro gV s σ H Pr Z p4 I E ht;rw[he];refine kS (IT (h gV s σ H Pr Z _ I E ht) λu s1 ⟨v,H1,r,Z1,I1,rv,E1,p⟩=>kS (wpAny_standAt (NT ?_)));obtain⟨b,rfl,p⟩:=l8 p;obtain⟨_,e1,p1⟩:=E1.head_d;cases e1;cases p1;cases rv;exact Na ⟨H1,Z1,I1,E1.tail,p⟩
end
section
variable{X:Cx}{e a b c:Expr}{dm:List Expr}{pos:Pos}{ta tb:W L}{tA tB:W Bool}
def JD(X:Cx)(e:Expr)(t:W Bool):Prop :=
 ∀(whole:Sem Value)(gV:List (Addr×Obj))(s:Shared)(σ:St)(H Pr:Hp)(Z:Ev)(p4:Bool->Ev->Prop),IR X gV σ H s->ay X.K Pr H σ Z->t Z p4->wpAny (model X.prog X.w) X.A (isTrue e X.env whole) (EB X gV σ Pr p4) X.xe s
theorem JD.pb{t:W Bool}(h:JD X e t):PB X e t:=h _
def CZ(t u:W Bool):W Bool:=λZ p4=>t Z λc Z1=>if c=true then u Z1 p4 else p4 false Z1
def JE(t u:W Bool):W Bool:=λZ p4=>t Z λc Z1=>if c=true then p4 true Z1 else u Z1 p4
def oJ(t:W Bool):W Bool:=λZ p4=>t Z λc Z1=>p4 (!c) Z1
theorem lS(ha:PB X a tA):JD X (.BoolOp .And [a] pos) tA:=by
 intro wh gV s σ H Pr Z p4 I E h;refine isTrue_and (IT (ha gV s σ H Pr Z p4 I E h) λc s1 e=>?_)
 cases c with
 |true=>exact isTrue_and_nil e
 |false=>exact e
theorem eT(ha:PB X a tA):JD X (.BoolOp .Or [a] pos) tA:=by
 intro wh gV s σ H Pr Z p4 I E h;refine isTrue_or (IT (ha gV s σ H Pr Z p4 I E h) λc s1 e=>?_)
 cases c with
 |false=>exact isTrue_or_nil e
 |true=>exact e
theorem oK(ha:PB X a tA)(hb:JD X (.BoolOp .And (b::dm) pos) tB):JD X (.BoolOp .And (a::b::dm) pos) (CZ tA tB):=by
 intro wh gV s σ H Pr Z p4 I E h;refine isTrue_and (IT (ha gV s σ H Pr Z _ I E h) λc s1 ⟨H1,Z1,I1,E1,q1⟩=>?_)
 cases c with
 |true=>exact hb wh gV s1 σ H1 Pr Z1 p4 I1 E1 q1
 |false=>exact⟨H1,Z1,I1,E1,q1⟩
theorem iR(ha:PB X a tA)(hb:JD X (.BoolOp .Or (b::dm) pos) tB):JD X (.BoolOp .Or (a::b::dm) pos) (JE tA tB):=by
 intro wh gV s σ H Pr Z p4 I E h;refine isTrue_or (IT (ha gV s σ H Pr Z _ I E h) λc s1 ⟨H1,Z1,I1,E1,q1⟩=>?_)
 cases c with
 |true=>exact⟨H1,Z1,I1,E1,q1⟩
 |false=>exact hb wh gV s1 σ H1 Pr Z1 p4 I1 E1 q1
theorem da(ha:PB X a tA):PB X (.UnaryOp .Not a pos) (oJ tA):=by intro gV s σ H Pr Z p4 I E h;exact isTrue_not (ha gV s σ H Pr Z (λc Z1=>p4 (!c) Z1) I E h)
theorem JF{op:CmpOp}{o:JB}(ho:JC X (compareOp op) o)(ha:PL X a ta)(hb:PL X b tb)(hm:behindInMarks op b=false):PB X (.Compare a [op] [b] pos) (aY (aK o ta tb)):=by intro gV s σ H Pr Z p4 I E h;refine wpAny_isTrue_Compare1 (two (R:=λdx dy Z2=>o dx dy λr=>vk r λb=>p4 b Z2) ha hb I E h λv u s2 x y H2 dx dy Z2 I2 r1 r2 E2 p1 p2 q=>?_) hm;refine IT (ho gV s2 σ H2 Pr Z2 x y v u dx dy _ I2 r1 r2 E2.tail.tail p1 p2 q) λw s3 ⟨z,H3,r,I3,rz,E3,p⟩=>?_;obtain⟨b,rfl,p⟩:=l8 p;obtain⟨_,e1,p1⟩:=E3.head_d;cases e1;cases p1;cases rz;exact Na ⟨H3,Z2,I3,E3.tail,p⟩
def ly(ta tb:W L):W L:=λZ p4=>ta Z λr Z1=>vk r λc=>if c=true then tb Z1 p4 else p4 (.d (.bl false)) Z1
def Bd(t:W Bool):W L:=λZ p4=>t Z λc Z1=>p4 (.d (.bl (!c))) Z1
theorem l9 {op} {t:W L} (h:PL X a t):PL X (.BoolOp op [a] pos) t:=λgV s σ H Pr Z p4 I E hw=>BoolOp_one (h gV s σ H Pr Z p4 I E hw)
theorem EL.bl{gV:List (Addr×Obj)}{σ:St}{Pr:Hp}{p4:Bool->Ev->Prop}{u:Value}{s':Shared}(h:EL X gV σ Pr (λr Z=>vk r λb=>p4 b Z) u s') :
  ∃H' b Z',u=.bool b/\IR X gV σ H' s'/\ay X.K Pr H' σ Z'/\p4 b Z':=by
 obtain⟨v,H',r,Z',I,rv,E,p⟩:=h;obtain⟨b,rfl,p⟩:=l8 p;obtain⟨_,e1,p1⟩:=E.head_d;cases e1;cases p1;cases rv;exact⟨H',b,Z',rfl,I,E.tail,p⟩
theorem iS(ha:PL X a ta)(hb:PL X (.BoolOp .And (b::dm) pos) tb):PL X (.BoolOp .And (a::b::dm) pos) (ly ta tb):=by
 intro gV s σ H Pr Z p4 I E h;refine BoolOp_and (IT (ha gV s σ H Pr Z _ I E h) λv s1 q=>?_)
 obtain⟨H1,c,Z1,rfl,I1,E1,q1⟩:=EL.bl (p4:=λc Z1=>if c=true then tb Z1 p4 else p4 (.d (.bl false)) Z1) q
 refine Na ?_
 cases c with
 |true=>exact hb gV s1 σ H1 Pr Z1 p4 I1 E1 q1
 |false=>exact⟨.bl false,H1,_,Z1,I1,rfl,E1.cons_d (.bl false),q1⟩
theorem DF(ha:PL X a ta):PL X (.UnaryOp .Not a pos) (Bd (aY ta)):=by intro gV s σ H Pr Z p4 I E h;refine UnaryOp_ (IT (ha gV s σ H Pr Z _ I E h) λv s1 q=>?_);obtain⟨H1,c,Z1,rfl,I1,E1,q1⟩:=EL.bl (p4:=λc Z1=>p4 (.d (.bl (!c))) Z1) q;exact not_of (Na ⟨.bl (!c),H1,_,Z1,I1,rfl,E1.cons_d (.bl _),q1⟩)
def F4(t:W Bool)(ta tb:W L):W L:=λZ p4=>t Z λc Z1=>if c=true then ta Z1 p4 else tb Z1 p4
theorem DG(hc:PB X c tA)(ha:PL X a ta)(hb:PL X b tb):PL X (.IfExp c a b pos) (F4 tA ta tb):=by
 intro gV s σ H Pr Z p4 I E h;refine wpAny_IfExp (IT (hc gV s σ H Pr Z _ I E h) λd s1 ⟨H1,Z1,I1,E1,q1⟩=>?_)
 cases d with
 |true=>exact ha gV s1 σ H1 Pr Z1 p4 I1 E1 q1
 |false=>exact hb gV s1 σ H1 Pr Z1 p4 I1 E1 q1
def JG(op:D->(L->Prop)->Prop)(t:W L):W L:=λZ p4=>t Z λx Z1=>JA x λdx=>op dx λr=>p4 r Z1
def oM:D->(L->Prop)->Prop
 |.int i,k=>k (.d (.int (-i)))
 |_,_=>False
theorem nM(ha:PL X a ta):PL X (.UnaryOp .USub a pos) (JG oM ta):=by
 intro gV s σ H Pr Z p4 I E h;refine UnaryOp_ (IT (ha gV s σ H Pr Z _ I E h) λv s1 q=>?_);obtain⟨x,H1,dx,Z1,I1,r1,E1,q1⟩:=EL.frz (p4:=λdx Z1=>oM dx λr=>p4 r Z1) q;obtain⟨_,e1,p1⟩:=E1.head_d;cases e1
 cases p1 with
 | int i =>
  exact IT (Dk gV s1 σ H1 _ v (λw H'=>w=.int (-i)/\H'=H1) I1 r1 ⟨i,rfl,rfl,rfl⟩) λu s2 ⟨w,H2,I2,r2,e1,e2⟩=>by subst e1 e2;exact⟨_,_,_,Z1,I2,r2,E1.tail.cons_d (.int _),q1⟩
 |_=>exact q1.elim
variable{st:Stmt}{sts:List Stmt}{t u:W Fl}
def bH:W Fl:=λZ p4=>p4 .nx Z
def a8(t u:W Fl):W Fl:=λZ p4=>t Z λf Z1=>match f with
 |.nx=>u Z1 p4
 |f=>p4 f Z1
theorem aS:Jz X [] bH:=λ_ _ σ H Pr Z p4 I E h=>N8 ⟨σ,H,Z,I,E,h⟩
theorem ai(h1:PM X st t)(h2:Jz X sts u):Jz X (st::sts) (a8 t u):=by
 intro gV s σ H Pr Z p4 I E h;refine wpAny_execs_cons (IT (h1 gV s σ H Pr Z _ I E h) λf s1 q=>?_)
 cases f with
 | next =>
  obtain⟨σ',H',Z',I',E',q⟩:=q;exact h2 gV s1 σ' H' Pr Z' p4 I' E' q
 |ret v=>exact q
 |brk=>exact q
 |cont=>exact q
theorem au(h1:PM X st t):Jz X [st] t:=by
 intro gV s σ H Pr Z p4 I E h;refine wpAny_execs_cons (IT (h1 gV s σ H Pr Z _ I E h) λf s1 q=>?_)
 cases f with
 |next=>exact N8 q
 |ret v=>exact q
 |brk=>exact q
 |cont=>exact q
def m9(t:W L):W Fl:=λZ p4=>t Z λ_ Z1=>p4 .nx Z1
theorem kD{te:W L}(he:PL X e te)(hs:swapsWith e none pos.line X.env=pure false:=by rfl):PM X (.Expr e pos) (m9 te):=by intro gV s σ H Pr Z p4 I E h;exact wpAny_Expr_any (IT (he gV s σ H Pr Z _ I E h) λv s1 ⟨x,H1,r,Z1,I1,r1,E1,q1⟩=>⟨σ,H1,Z1,I1,E1.tail,q1⟩) I.quiet hs
def dj(t:W L):W Fl:=λZ p4=>t Z λr Z1=>p4 (.rt r) Z1
theorem aP{te:W L}(he:PL X e te):PM X (.Return (some e) pos) (dj te):=by intro gV s σ H Pr Z p4 I E h;exact wpAny_Return_some (IT (he gV s σ H Pr Z _ I E h) λv s1 ⟨x,H1,r,Z1,I1,r1,E1,q1⟩=>⟨x,σ,H1,r,Z1,σ,I1,r1,E1,q1⟩)
def JH(c:W Bool)(t u:W Fl):W Fl:=λZ p4=>c Z λb Z1=>if b=true then t Z1 p4 else u Z1 p4
theorem bN{sa sb:List Stmt}(hc:PB X c tA)(ha:Jz X sa t)(hb:Jz X sb u):PM X (.If c sa sb pos) (JH tA t u):=by
 intro gV s σ H Pr Z p4 I E h;refine wpAny_If (IT (hc gV s σ H Pr Z _ I E h) λd s1 ⟨H1,Z1,I1,E1,q1⟩=>?_)
 cases d with
 |true=>exact ha gV s1 σ H1 Pr Z1 p4 I1 E1 q1
 |false=>exact hb gV s1 σ H1 Pr Z1 p4 I1 E1 q1
theorem ay.forget{K:PySem.W.Frag}{Pr H:Hp}{σ:St}{Z:Ev}(E:ay K Pr H σ Z)(i:Nat)(v:Option V):ay K Pr H (σ.set i v) (Z.set i .un):=by
 have hsub:(owns (Z.set i .un)).Sublist (owns Z):=by
  have:∀(Z:Ev)(i:Nat),(owns (Z.set i .un)).Sublist (owns Z):=by
   intro Z
   induction Z with
   |nil=>intro i;exact Oc _
   | cons l Z ih =>
    intro i
    cases i with
    | zero =>
     show(owns Z).Sublist (owns (l::Z));rw[aH];exact NF _ _
    | succ i =>
     show(owns (l::Z.set i .un)).Sublist (owns (l::Z));rw[aH,aH];exact(Oc _).append (ih i)
  exact this Z i
 exact⟨E.sub,E.nd.sublist hsub,λa h=>E.off a (hsub.subset h),Paired.set2 True.intro i E.sl⟩
theorem ay.store{K:PySem.W.Frag}{Pr H:Hp}{σ:St}{Z:Ev}{v:Option V}{l:L}(E:ay K Pr H (v::σ) (l::Z)){i:Nat}(hi:i<σ.length):ay K Pr H (σ.set i v) (Z.set i l):=by have E1:=E.forget (i+1) v;have E2:ay K Pr H (v::σ.set i v) (l::Z.set i .un):=E1;have hl:=E.tail.len;have E3:=E2.back (i:=i) (by rw[Nj xL]) (by rw[Nj hi]);rw[NU]at E3;exact E3
def b7(i:Nat)(t:W L):W Fl:=λZ p4=>t Z λr Z1=>p4 .nx (Z1.set i r)
theorem aL{i:Nat}{x:Str}{te:W L}{pos':Pos}(hN:X.N.Nodup)(hi:X.N[i]?=some x)(hx:IQ X.env.scope x)(he:PL X e te)(hs:swapsWith e (some (.Name x pos')) pos.line X.env=pure false:=by rfl)(hf:X.fn x=true∨X.env.scope.names.lookup x=some .local:=by first|exact .inl rfl|exact .inr rfl|assumption) :
  PM X (.Assign [.Name x pos'] e pos) (b7 i te):=by
 intro gV s σ H Pr Z p4 I E h;refine wpAny_Assign_Name (IT (he gV s σ H Pr Z _ I E h) λv s1 ⟨y,H1,r,Z1,I1,r1,E1,q1⟩=>?_) hs;exact iB I1 hN hi hx r1 (λs2 I2=>⟨_,H1,_,I2,E1.store (by rw[I1.len];exact(Mx.mp hi).1),q1⟩) hf
end
theorem jG{a b:Ev}(h:a.Perm b):(owns a).Perm (owns b):=by
 induction h with
 |nil=>exact .refl _
 |cons x _ ih=>rw[aH,aH];exact ih.append_left _
 | swap x y l =>
  rw[aH,aH,aH,aH,<- MV,<- MV];exact List.Perm.append_right _ Nl
 |trans _ _ h1 h2=>exact h1.trans h2
theorem yJ{a b:Ev}(h:a.Sublist b):(owns a).Sublist (owns b):=by
 induction h with
 |slnil=>exact .refl _
 |cons x _ ih=>rw[aH];exact ih.trans (NF _ _)
 |cons_cons x _ ih=>rw[aH,aH];exact(Oc _).append ih
def tL(K:PySem.W.Frag)(t:W L):TE:=λσ H Q=>∃Pr Z p4,ay K Pr H σ Z/\t Z p4/\∀v H' r Z',ay K Pr H' (some v::σ) (r::Z')->p4 r Z'->Q v H'
def tW(K:PySem.W.Frag)(t:W Fl):TS:=λD σ H=>∃Pr Z p4,ay K Pr H σ Z/\t Z p4/\(∀σ' H' Z',ay K Pr H' σ' Z'->p4 .nx Z'->D.nx σ' H')/\(∀σ' H' Z',ay K Pr H' σ' Z'->p4 .bk Z'->D.bk σ' H')/\(∀σ' H' Z',ay K Pr H' σ' Z'->p4 .ct Z'->D.ct σ' H') /\
 ∀v τ H' r Z',ay K Pr H' (some v::τ) (r::Z')->p4 (.rt r) Z'->D.rt v H'
noncomputable def JI(K:PySem.W.Frag)(t:W Bool):TT:=λσ H Q=>∃Pr Z p4,ay K Pr H σ Z/\t Z p4/\∀b H' Z',ay K Pr H' σ Z'->p4 b Z'->Q b H'
section
variable{X:Cx}{e a b:Expr}{es:List Expr}{pos:Pos}{st:Stmt}{sts:List Stmt}{t u:W Fl}
theorem PL.pe{t:W L}(h:PL X e t):PE X e (tL X.K t):=λgV s σ H Q I ⟨Pr,Z,p4,E,ht,q⟩ =>
 IT (h gV s σ H Pr Z p4 I E ht) λu s1 ⟨v,H1,r,Z1,I1,rv,E1,p⟩=>⟨v,H1,I1,rv,q v H1 r Z1 E1 p⟩
theorem PB.pt{t:W Bool}(h:PB X e t):PT X e (JI X.K t):=λgV s σ H Q I ⟨Pr,Z,p4,E,ht,q⟩ =>
 IT (h gV s σ H Pr Z p4 I E ht) λb s1 ⟨H1,Z1,I1,E1,p⟩=>⟨H1,I1,q b H1 Z1 E1 p⟩
theorem Jz.pss(h:Jz X sts t):IS X sts (tW X.K t):=λgV s σ H D I ⟨Pr,Z,p4,E,ht,q1,q2,q3,q4⟩ =>
 IT (h gV s σ H Pr Z p4 I E ht) λf s1 q=>by
  cases f with
  |next=>obtain⟨σ',H',Z',I',E',p⟩:=q;exact⟨σ',H',I',q1 σ' H' Z' E' p⟩
  |brk=>obtain⟨σ',H',Z',I',E',p⟩:=q;exact⟨σ',H',I',q2 σ' H' Z' E' p⟩
  |cont=>obtain⟨σ',H',Z',I',E',p⟩:=q;exact⟨σ',H',I',q3 σ' H' Z' E' p⟩
  |ret u=>obtain⟨v,σ',H',r,Z',τ,I',rv,E',p⟩:=q;exact⟨v,σ',H',I',rv,q4 v τ H' r Z' E' p⟩
noncomputable def DH(K:PySem.W.Frag)(Pr:Hp)(p4:Fl->Ev->Prop):CY where
 nx:=λσ' H'=>∃Z',ay K Pr H' σ' Z'/\p4 .nx Z'
 rt:=λv H'=>∃τ r Z',ay K Pr H' (some v::τ) (r::Z')/\p4 (.rt r) Z'
 bk:=λσ' H'=>∃Z',ay K Pr H' σ' Z'/\p4 .bk Z'
 ct:=λσ' H'=>∃Z',ay K Pr H' σ' Z'/\p4 .ct Z'
theorem PM.of{ts:TS}(h:PS X st ts)(q:∀σ H Pr Z p4,σ.length=X.N.length->ay X.K Pr H σ Z->t Z p4->ts (DH X.K Pr p4) σ H):PM X st t:=λgV s σ H Pr Z p4 I E ht =>
 IT (h gV s σ H _ I (q σ H Pr Z p4 I.len E ht)) λf s1 q=>by
  cases f with
  |next=>obtain⟨σ',H',I',Z',E',p⟩:=q;exact⟨σ',H',Z',I',E',p⟩
  |brk=>obtain⟨σ',H',I',Z',E',p⟩:=q;exact⟨σ',H',Z',I',E',p⟩
  |cont=>obtain⟨σ',H',I',Z',E',p⟩:=q;exact⟨σ',H',Z',I',E',p⟩
  |ret u=>obtain⟨v,σ',H',I',rv,τ,r,Z',E',p⟩:=q;exact⟨v,σ',H',r,Z',τ,I',rv,E',p⟩
theorem ay.narrow{K:PySem.W.Frag}{Pr H1 H:Hp}{σ1 σ:St}{Z1 Z:Ev}(E1:ay K Pr H1 σ1 Z1)(E:ay K (a9 H1 Z1) H σ Z):ay K Pr H σ Z:=by
 refine⟨λb o e=>E.sub b o ?_,E.nd,λa ha=>?_,E.sl⟩
 . unfold a9;rw[if_neg,E1.sub b o e];intro hm;have z:=E1.off b hm;rw[e]at z;cases z
 .
  have z:=E.off a ha;unfold a9 at z;by_cases hm:a∈owns Z1
  . exact E1.off a hm
  .
   rw[if_neg hm]at z
   cases q:Pr a with
   |none=>rfl
   |some o=>rw[E1.sub a o q]at z;cases z
def aJ:W (List L):=λZ p4=>p4 [] Z
def ao(t:W L)(r:W (List L)):W (List L):=λZ p4=>t Z λx Z1=>r Z1 λxs Z2=>p4 (x::xs) Z2
def cu(i:Nat)(r:W (List L)):W (List L):=λZ p4=>match Z[i]? with
 |some (.own _ _)=>r Z λxs Z2=>p4 (.un::xs) Z2
 |_=>False
theorem ag:Jy X [] [] aJ:=λ_ gV s σ H Pr Z p4 I E h=>Calls.spliced_nil ⟨[],H,[],Z,I,.nil,rfl,rfl,E,λk i e=>by simp at e,h⟩
theorem ae{bs:List (Option Nat)}{r:W (List L)}{t:W L}(ha:PL X e t)(hr:Jy X es bs r)(hs:starEach (e::es) X.env=(false,eval e X.env)::starEach es X.env:=by rfl):Jy X (e::es) (none::bs) (ao t r):=by
 intro pos gV s σ H Pr Z p4 I E h;rw[hs];show wpAny _ _ (spliced ((false,eval e X.env)::backTo pos (starEach es X.env))) _ _ s;refine N5 (IT (ha gV s σ H Pr Z _ I E h) λu s1 ⟨x,H1,l,Z1,I1,r1,E1,q1⟩=>?_);refine IT (hr pos gV s1 σ H1 _ Z1 _ I1 E1.tail.wide q1) λus s2 ⟨vs,H2,ls,Z2,I2,r2,hl,hb,E2,hv,q2⟩=>?_;have E3:ay X.K Pr H2 (vs.map some++(some x::σ)) (ls++(l::Z2)):=ay.step (τ:=[some x]) (lam:=[l]) E1 rfl E2 (by simp[hl])
 have E4:ay X.K Pr H2 (some x::(vs.map some++σ)) (l::(ls++Z2)):=by
  have pm:(owns (ls++(l::Z2))).Perm (owns (l::(ls++Z2))):=jG List.perm_middle;have s1:=Paired.unapp (by simp[hl]) E3.sl;obtain⟨s1,s2⟩:=s1
  cases s2 with
  |cons q t=>exact⟨E3.sub,pm.nodup_iff.mp E3.nd,λa h=>E3.off a (pm.mem_iff.mpr h),.cons q (Paired.app s1 t)⟩
 refine⟨x::vs,H2,l::ls,Z2,I2,.cons r1 r2,by simp[hl],by simp[hb],E4,λk i e=>?_,q2⟩
 cases k with
 |zero=>simp at e
 |succ k=>simpa using hv k i (by simpa using e)
theorem aF(i:Nat){x:Str}{p:Pos}{bs:List (Option Nat)}{r:W (List L)}(hr:Jy X es bs r)(hN:X.N[i]?=some x:=by rfl)(hv:IP X.env.scope x:=by first | exact Or.inl rfl | exact Or.inr (Or.inl rfl) | exact Or.inr (Or.inr rfl)) (hd:(x == ("__debug__" : Str))=false:=by decide)
  (hcd:(x == ("__classdict__" : Str))=false:=by decide) (hs:starEach (.Name x p::es) X.env=(false,eval (.Name x p) X.env)::starEach es X.env:=by rfl):Jy X (.Name x p::es) (some i::bs) (cu i r):=by
 intro pos gV s σ H Pr Z p4 I E h;unfold cu at h
 cases q:Z[i]? with
 |none=>rw[q]at h;exact h.elim
 | some l =>
  rw[q]at h
  cases l with
  |un=>exact h.elim
  |d y=>exact h.elim
  |bx _ _=>exact h.elim
  |dic _ _=>exact h.elim
  | own a xs =>
   obtain⟨sv,hsl,sl⟩:=E.slot q;obtain⟨rfl,_⟩:=sl;rw[hs];show wpAny _ _ (spliced ((false,eval (.Name x p) X.env)::backTo pos (starEach es X.env))) _ _ s;refine N5 (IT (cm hN hv hd hcd gV s σ H (λw H'=>w=.ref a/\H'=H) I ⟨.ref a,hsl,rfl,rfl⟩) λu s1 ⟨w,H1,I1,r1,e1,e2⟩=>?_);subst e1 e2;refine IT (hr pos gV s1 σ H1 Pr Z _ I1 E h) λus s2 ⟨vs,H2,ls,Z2,I2,r2,hl,hb,E2,hv,q2⟩=>?_;refine⟨.ref a::vs,H2,.un::ls,Z2,I2,.cons r1 r2,by simp[hl],by simp[hb],E2.cons_un,λk j e=>?_,q2⟩
   cases k with
   |zero=>simp at e;subst e;exact⟨rfl,.ref a,rfl,hsl⟩
   |succ k=>simpa using hv k j (by simpa using e)
def yK:List L->(List D->Prop)->Prop
 |[],k=>k []
 |.d x::r,k=>yK r λxs=>k (x::xs)
 |_::_,_=>False
theorem hG:∀{ls:List L}{k:List D->Prop},yK ls k->∃xs,ls=xs.map .d/\k xs
 |[],_,h=>⟨[],rfl,h⟩
 | .d x::r,k,h=>by obtain⟨xs,e,q⟩:=hG (ls:=r) h;exact⟨x::xs,by rw[e];rfl,q⟩
 |.un::_,_,h=>h.elim
 |.own _ _::_,_,h=>h.elim
theorem hJ{K:PySem.W.Frag}{Pr H:Hp}{σ:St}{Z:Ev}:∀{vs:List V}{xs:List D},vs.length=xs.length->ay K Pr H (vs.map some++σ) (xs.map .d++Z)->bf K H vs xs
 |[],[],_,_=>.nil
 | v::vs,x::xs,hl,E=>by obtain⟨w,e,r⟩:=ay.head_d (v:=some v) (x:=x) E;cases e;exact .cons r (hJ (by simpa using hl) (ay.tail (v:=some v) (l:=.d x) E))
 |[],_::_,hl,_=>by simp at hl
 |_::_,[],hl,_=>by simp at hl
def dR(t:W (List L)):W L:=λZ p4=>t Z λls Z1=>yK ls λxs=>xs.length<=sizeLine/\p4 (.d (.tup xs)) Z1
def jb(t:W (List L)):W L:=λZ p4=>t Z λls Z1=>yK ls λxs=>xs.length<=sizeLine/\∀a,p4 (.own a xs) Z1
theorem aR {x1} {bs:List (Option Nat)} {t:W (List L)} (h:Jy X es bs t):PL X (.Tuple es x1 pos) (dR t):=by
 intro gV s σ H Pr Z p4 I E hq;refine wpAny_Tuple_spliced (IT (h pos gV s σ H Pr Z _ I E hq) λus s1 ⟨vs,H1,ls,Z1,I1,r,hl,hb,E1,hv,q⟩=>?_);obtain⟨xs,rfl,z,q⟩:=hG q;have kz:vs.length=xs.length:=by simpa using hl
 refine⟨by rw[<- r.length,kz];exact z,?_⟩;have hf:H1 s1.heap.objs.size=none:=I1.hok.fresh (ME _);refine⟨.ref s1.heap.objs.size,IH H1 s1.heap.objs.size (.tup vs),_,Z1,I1.laid (t':=s1.toks) (λb u e=>tu _ e) (ME _) ?_,rfl,(E1.drop (by simp[kz])).cons_tup hf (hJ kz E1),q⟩;exact⟨by rw[kz];exact z,us,r,⟨_,M4 _ rfl,rfl,_,rfl⟩⟩
theorem bh{bs:List (Option Nat)}{t:W (List L)}(h:Jy X es bs t):PL X (.List es pos) (jb t):=by
 intro gV s σ H Pr Z p4 I E hq;refine wpAny_List_spliced (IT (h pos gV s σ H Pr Z _ I E hq) λus s1 ⟨vs,H1,ls,Z1,I1,r,hl,hb,E1,hv,q⟩=>?_);obtain⟨xs,rfl,z,q⟩:=hG q;have kz:vs.length=xs.length:=by simpa using hl
 refine⟨by rw[<- r.length,kz];exact z,?_⟩;have hf:H1 s1.heap.objs.size=none:=I1.hok.fresh (ME _);refine⟨.ref s1.heap.objs.size,IH H1 s1.heap.objs.size (.lst vs),_,Z1,I1.laid (t':=s1.toks) (λb u e=>tu _ e) (ME _) ?_,rfl,(E1.drop (by simp[kz])).cons_own hf (hJ kz E1),q _⟩;exact⟨by rw[kz];exact z,us,0,r,M4 _ rfl⟩
abbrev FS:=List L->(L->List L->Prop)->Prop
noncomputable def spF(K:PySem.W.Frag)(n:Nat)(fs:FS):Sp:=λvs H Q _=>vs.length=n/\∃Pr ls p4,ay K Pr H (vs.map some) ls/\fs ls p4/\∀v H' r ls',ay K Pr H' (some v::vs.map some) (r::ls')->p4 r ls'->Q v H'
theorem ay.swap{K:PySem.W.Frag}{Pr H:Hp}{σ τ:St}{Z lam:Ev}(hl:τ.length=lam.length)(E:ay K Pr H (τ++σ) (lam++Z)):ay K Pr H (σ++τ) (Z++lam):=by have pm:(owns (lam++Z)).Perm (owns (Z++lam)):=jG Nl;obtain⟨s1,s2⟩:=Paired.unapp hl E.sl;exact⟨E.sub,pm.nodup_iff.mp E.nd,λa h=>E.off a (pm.mem_iff.mpr h),Paired.app s2 s1⟩
theorem Al{K:PySem.W.Frag}{Pr H H':Hp}{σ τ:St}{Z ls ls':Ev}{v:Option V}{r:L}(hl:τ.length=ls.length)(E:ay K Pr H (τ++σ) (ls++Z))(E':ay K (a9 H ls) H' (v::τ) (r::ls')):ay K Pr H' (v::(τ++σ)) (r::(ls'++Z)):=by
 have hρ:σ.length=Z.length:=(E.drop hl).len;have z:=ay.step (τ:=σ) (σ:=τ) (lam:=Z) (Z:=ls) (w:=[v]) (μ:=[r]) (E.swap hl) hρ E' rfl;have hl':τ.length=ls'.length:=by have:=E'.len;simpa using this
 obtain⟨s1,s2⟩:=Paired.unapp (a:=[v]) (b:=[r]) rfl z.sl;obtain⟨s2,s3⟩:=Paired.unapp hρ s2;have pm:(owns ([r]++(Z++ls'))).Perm (owns (r::(ls'++Z))):=jG (List.Perm.cons r (Nl (l₁:=Z) (l₂:=ls')));exact⟨z.sub,pm.nodup_iff.mp z.nd,λa h=>z.off a (pm.mem_iff.mpr h),Paired.app s1 (Paired.app s3 s2)⟩
def d3(fs:FS)(t:W (List L)):W L:=λZ p4=>t Z λls Z1=>fs ls λr _=>p4 r Z1
def aM(fs:FS)(k i:Nat)(t:W (List L)):W L:=λZ p4=>t Z λls Z1=>match Z1[i]? with
 |some (.own a xs)=>fs (ls.set k (.own a xs)) λr ls'=>∃ys,ls'[k]?=some (.own a ys)/\p4 r (Z1.set i (.own a ys))
 |_=>False
section
variable{CX:Jj}{k n:Nat}{f:Addr}{fd:FuncData}{ps:List Str}{fs:FS}{E:XK}{x:Str}{p:Pos}{bs:List (Option Nat)}{t:W (List L)}
theorem ay.drop1{K:PySem.W.Frag}{Pr H:Hp}{σ τ:St}{Z lam:Ev}{v:Option V}{r:L}(hl:τ.length=lam.length)(E:ay K Pr H (v::(τ++σ)) (r::(lam++Z))):ay K Pr H (v::σ) (r::Z):=by obtain⟨s1,s2⟩:=Paired.unapp (a:=[v]) (b:=[r]) rfl E.sl;obtain⟨s2,s3⟩:=Paired.unapp hl s2;have sb:(owns (r::Z)).Sublist (owns (r::(lam++Z))):=yJ (List.Sublist.cons_cons r (NF _ _));exact⟨E.sub,E.nd.sublist sb,λa h=>E.off a (sb.subset h),Paired.app s1 s3⟩
theorem Be(F:FnOk X.prog X.w X.K X.mg X.base CX k f fd ps (spF X.K n fs))(hr:fw k X.A)(hg:Gl X x)(hm:X.mg x=some (.ref f))(hk:PySem.W.keepIn X.K (.ref f)=true)(hb:jE X.K fd ps [])(hx:sT CX X E)
  (ha:Jy X (e::es) bs t) (hn:bs.length=n) (hdb:(x == ("__debug__" : Str))=false:=by decide) (he:starEach (e::es) X.env=(false,eval e X.env)::starEach es X.env:=by rfl) (hpl:(backTo pos (starEach es X.env)).any (·.1)=false:=by rfl) :
  PL X (.Call (.Name x p) (e::es) [] pos) (d3 fs t):=by
 intro gV s σ H Pr Z p4 I E0 h;refine Nw (fV I hg hm ?_ hdb);refine N3 (h₀:=X.base) I.ok.mod.kin hk (IT (ha pos gV s σ H Pr Z _ I E0 h) λus s1 ⟨vs,H1,ls,Z1,I1,r,hl,hbl,E1,hv,q⟩=>⟨I1.kIn,?_⟩) he hpl;have hl':(vs.map some).length=ls.length:=by simp[hl]
 refine IT (vN (Q:=λv H'=>∃r Z',ay X.K Pr H' (some v::σ) (r::Z')/\p4 r Z') F hr hb .nil hx I1 r ?_) λu s2 ⟨v,H2,I2,rv,r,Z',E2,p⟩=>⟨v,H2,r,Z',I2,rv,E2,p⟩;rw[M9];refine⟨hbl.trans hn,a9 H1 ls,ls,_,(E1.left hl').wide,q,λv H' r ls' E2 p=>⟨r,Z1,?_,p⟩⟩;have z:=Al hl' E1 E2;have hl2:(vs.map some).length=ls'.length:=by have:=E2.len;simpa using this
 exact z.drop1 hl2
theorem yL(F:FnOk X.prog X.w X.K X.mg X.base CX k f fd ps (spF X.K n fs))(hr:fw k X.A)(hg:Gl X x)(hm:X.mg x=some (.ref f))(hk:PySem.W.keepIn X.K (.ref f)=true)(hb:jE X.K fd ps [])(hx:sT CX X E)
  (j i:Nat) (ha:Jy X (e::es) bs t) (hj:bs[j]?=some (some i)) (hn:bs.length=n) (hdb:(x == ("__debug__" : Str))=false:=by decide) (he:starEach (e::es) X.env=(false,eval e X.env)::starEach es X.env:=by rfl) (hpl:(backTo pos (starEach es X.env)).any (·.1)=false:=by rfl) :
  PL X (.Call (.Name x p) (e::es) [] pos) (aM fs j i t):=by
 intro gV s σ H Pr Z p4 I E0 h;refine Nw (fV I hg hm ?_ hdb);refine N3 (h₀:=X.base) I.ok.mod.kin hk (IT (ha pos gV s σ H Pr Z _ I E0 h) λus s1 ⟨vs,H1,ls,Z1,I1,r,hl,hbl,E1,hv,q⟩=>⟨I1.kIn,?_⟩) he hpl;have hl':(vs.map some).length=ls.length:=by simp[hl]
 refine IT (vN (Q:=λv H'=>∃r Z',ay X.K Pr H' (some v::σ) (r::Z')/\p4 r Z') F hr hb .nil hx I1 r ?_) λu s2 ⟨v,H2,I2,rv,r,Z',E2,p⟩=>⟨v,H2,r,Z',I2,rv,E2,p⟩;rw[M9];dsimp only at q
 cases qi:Z1[i]? with
 |none=>rw[qi]at q;exact q.elim
 | some l =>
  rw[qi]at q
  cases l with
  |un=>exact q.elim
  |d y=>exact q.elim
  |bx _ _=>exact q.elim
  |dic _ _=>exact q.elim
  | own a xs =>
   obtain⟨hun,w,hw,hσ⟩:=hv j i hj;obtain⟨sv,hs2,rfl,_⟩:=(E1.drop hl').slot qi;rw[hσ]at hs2;cases hs2;have hjl:j<ls.length:=(Mx.mp hun).1;have hjv:j<vs.length:=by omega
   have hil:i<Z1.length:=(Mx.mp qi).1;have E2:=E1.out (i:=ls.length+i) (a:=a) (xs:=xs) (by rw[MW xL];simpa using qi);rw[List.set_append_right _ _ xL,Ng]at E2;have E3:=E2.back (i:=j) (by rw[Nh hjl];exact hun) (by rw[Nh (by simp;omega)];simp[hw]);rw[List.set_append_left _ _ hjl]at E3;have hl3:(vs.map some).length=(ls.set j (.own a xs)).length:=by simp[hl]
   refine⟨hbl.trans hn,a9 H1 (ls.set j (.own a xs)),_,_,(E3.left hl3).wide,q,λv H' r ls' E4 p=>?_⟩;obtain⟨ys,hys,p⟩:=p;refine⟨r,Z1.set i (.own a ys),?_,p⟩;have z:=Al hl3 E3 E4;have hl4:(vs.map some).length=ls'.length:=by have:=E4.len;simpa using this
   have hjl':j<ls'.length:=by simp at hl4;omega
   have z1:=z.out (i:=1+j) (a:=a) (xs:=ys) (by rw[Nat.add_comm];simp only[List.getElem?_cons_succ];rw[Nh hjl'];exact hys);rw[Nat.add_comm 1 j,List.set_cons_succ,List.set_append_left _ _ hjl']at z1
   have z2:=z1.back (i:=(1+ls'.length)+i) (by
    rw[Nat.add_comm 1,Nat.add_right_comm,List.getElem?_cons_succ,MW v6]
    simp[hil]) (by
    rw[Nat.add_comm 1,Nat.add_right_comm,List.getElem?_cons_succ,MW (by simp at hl4 ⊢;omega)];simp at hl4 ⊢;rw[<- hl4,Ng]
    exact hσ)
   rw[Nat.add_comm 1,Nat.add_right_comm,List.set_cons_succ,List.set_append_right _ _ v6]at z2;simp only[List.length_set,Ng,NU]at z2;exact z2.drop1 (by simp at hl4 ⊢;exact hl4)
end
end
def sY(Z:Ev):List L->List L->Prop:=Paired λl l'=>match l with
 |.own a _=>(∃ys,l'=.own a ys/\L.own a ys∈Z)∨l'=.un
 |.bx _ _=>l'=.un
 |.dic _ _=>l'=.un
 |l=>l'=l
def bS(ls:List L)(p4:L->List L->Prop):Fl->Ev->Prop:=λf Z=>match f with
 |.rt r=>∃ls',sY Z ls ls'/\p4 r ls'
 |.nx=>∃ls',sY Z ls ls'/\p4 (.d .non) ls'
 |_=>False
theorem sY.owns{Z:Ev}:∀{ls ls':List L},sY Z ls ls'->(owns ls').Sublist (owns ls)
 |_,_,.nil=>.refl _
 | l::ls,l'::ls',.cons h t=>by
  have ih:=sY.owns t;rw[aH,aH]
  cases l with
  | own a xs =>
   rcases h with⟨ys,rfl,_⟩|rfl
   . exact(Oc _).append ih
   . exact ih.trans (NF _ _)
  |un=>have e:l'=.un:=h;subst e;exact(Oc _).append ih
  |d x=>have e:l'=.d x:=h;subst e;exact(Oc _).append ih
  |bx k ms=>have e:l'=.un:=h;subst e;exact ih.trans (NF _ _)
  |dic k ms=>have e:l'=.un:=h;subst e;exact ih.trans (NF _ _)
theorem sY.sub{Z:Ev}:∀{ls ls':List L},sY Z ls ls'->∀a∈L2.owns ls',a∈L2.owns Z
 |_,_,.nil=>λa ha=>by simp[L2.owns]at ha
 | l::ls,l'::ls',.cons h t=>λa ha=>by
  have ih:=sY.sub t;rw[aH]at ha;rcases ML.mp ha with z|z
  .
   cases l with
   | own b xs =>
    rcases h with⟨ys,rfl,hm⟩|rfl
    .
     have e:a=b:=by simpa[aW]using z
     subst e;exact A6 hm
    . simp[aW]at z
   |un=>have e:l'=.un:=h;subst e;simp[aW]at z
   |d x=>have e:l'=.d x:=h;subst e;simp[aW]at z
   |bx k ms=>have e:l'=.un:=h;subst e;simp[aW]at z
   |dic k ms=>have e:l'=.un:=h;subst e;simp[aW]at z
  . exact ih a z
theorem td{K:PySem.W.Frag}{Pr H H':Hp}{σ τ:St}{ls ls' Z:Ev}{v:Option V}{r:L}(E:ay K Pr H σ ls)(E':ay K (a9 H ls) H' (v::τ) (r::Z))(B:sY Z ls ls'):ay K Pr H' (v::σ) (r::ls'):=by
 have E1:=E.narrow E';have p:m8 H H':=oH E E'.sub;have sub:=B.sub;have nd1:(owns ls').Nodup:=E.nd.sublist B.owns;refine⟨E1.sub,?_,λa ha=>?_,?_⟩
 . have nd:=E'.nd;rw[aH]at nd ⊢;obtain⟨n1,n2,n3⟩:=MX.mp nd;exact MX.mpr ⟨n1,nd1,λa ha b hb=>n3 a ha b (sub b hb)⟩
 .
  rw[aH]at ha;refine E1.off a ?_;rw[aH];rcases ML.mp ha with z|z
  . exact MJ _ z
  . exact MM _ (sub a z)
 .
  have s1:=E'.sl
  cases s1 with
  | cons q t =>
   refine .cons q ?_;have sl:=E.sl;clear E E' E1 nd1 sub
   induction B generalizing σ with
   |nil=>cases sl;exact .nil
   | cons h u ih =>
    rename_i l l' _ _
    cases sl with
    | cons s0 s2 =>
     refine .cons ?_ (ih s2)
     cases l with
     | own a xs =>
      rcases h with⟨ys,rfl,hm⟩|rfl
      . obtain⟨e,_⟩:=s0;obtain⟨_,_,_,z⟩:=Paired.mem2 t hm;exact⟨e,z⟩
      . unfold aT;exact True.intro
     |un=>have e:l'=.un:=h;subst e;unfold aT;exact True.intro
     |bx k ms=>have e:l'=.un:=h;subst e;unfold aT;exact True.intro
     |dic k ms=>have e:l'=.un:=h;subst e;unfold aT;exact True.intro
     | d x =>
      have e:l'=.d x:=h;subst e;obtain⟨w,e,r⟩:=s0;exact⟨w,e,r.pres p⟩
section
variable{P:Program}{w:World}{K:PySem.W.Frag}{mg:Str->Option Value}{base:Heap}
theorem ay.uns{K:PySem.W.Frag}{Pr H:Hp}{σ:St}{Z:Ev}(E:ay K Pr H σ Z):∀n,ay K Pr H (σ++List.replicate n none) (Z++List.replicate n .un):=λn=>by
 have e:owns (Z++List.replicate n .un)=owns Z:=by
  rw[aE]
  have:owns (List.replicate n L.un)=[]:=by
   induction n with
   |zero=>rfl
   |succ n ih=>rw[M3,lg];exact ih
  rw[this,M9]
 refine⟨E.sub,by rw[e];exact E.nd,λa h=>E.off a (by rw[e]at h;exact h),Paired.app E.sl ?_⟩
 induction n with
 |zero=>exact .nil
 | succ n ih =>
  rw[M3,M3];refine .cons True.intro (ih ?_)
  have:owns (List.replicate n L.un)=[]:=by
   clear ih e
   induction n with
   |zero=>rfl
   |succ n ih=>rw[M3,lg];exact ih
  rw[aE,this,M9]
theorem de{x qual:Str}{st:Stmt}{f:Addr}{fd:FuncData}{N ps:List Str}{k:Nat}{fs:FS}(F:Jv K x qual st f fd)(S:aO N ps (aB st))(t:W Fl)
  (hbody:∀(cdv:Value)(A:Around)(outer:List Env)(s:Shared)(H:Hp)(E:XK),fw k (A.deeper (envOfC qual (aB st) s.heap.objs.size f cdv))->Jz (yi CX0 P w K mg base N qual (aB st) f cdv A outer s H E).nox (cj st) t)
  (h:∀ls p4,ls.length=ps.length->fs ls p4->t (ls++List.replicate (N.length-ps.length) .un) (bS ls p4)):FnOk P w K mg base CX0 (k+1) f fd ps (spF K ps.length fs):=by
 refine F.ok S (λvs H Q E q=>q.1) (λcdv A outer s H vs Q E hr q=>?_);obtain⟨hl,Pr,ls,p4,E0,hf,q⟩:=q;refine⟨_,(hbody cdv A outer s H E hr).pss,a9 H ls,ls++List.replicate (N.length-ps.length) .un,bS ls p4,?_,h ls p4 (by rw[<- hl];have:=E0.len;simpa using this.symm) hf,λσ' H' Z' E' p=>?_,λ_ _ _ _ p=>p.elim,λ_ _ _ _ p=>p.elim,λv τ H' r Z' E' p=>?_⟩
 . unfold kC;rw[hl];exact E0.wide.uns _
 . obtain⟨ls',B,p⟩:=p;exact q .non H' (.d .non) ls' (td E0 (E'.cons_d .non) B) p
 . obtain⟨ls',B,p⟩:=p;exact q v H' r ls' (td E0 E' B) p
end
theorem bg{Z:Ev}:sY Z [] []:=.nil
theorem aI{Z:Ev}{x:D}{a b:List L}(t:sY Z a b):sY Z (.d x::a) (.d x::b):=.cons rfl t
theorem bC{Z:Ev}{p:Addr}{xs ys:List D}{a b:List L}(h:L.own p ys∈Z)(t:sY Z a b):sY Z (.own p xs::a) (.own p ys::b):=.cons (.inl ⟨ys,rfl,h⟩) t
section
variable{X:Cx}{e a b c tg:Expr}{es:List Expr}{pos:Pos}{tA:W Bool}{t u:W Fl}
def tj(c:W Bool)(b:W Fl):W Fl:=λZ p4=>∃J:Nat->Ev->Prop,(∃n,J n Z)/\∀n Z,J n Z->c Z λt Z1=>if t=true then b Z1 λf Z2=>(match f with
 |.nx=>∃m,m<n/\J m Z2
 |.ct=>∃m,m<n/\J m Z2
 |.bk=>p4 .nx Z2
 |.rt r=>p4 (.rt r) Z2)else p4 .nx Z1
theorem oN{body:List Stmt}(hp:PassesOwn (model X.prog X.w) X.A X.env X.xe)(hc:PB X c tA)(hb:Jz X body t):PM X (.While c body [] pos) (tj tA t):=by
 refine PM.of (yq hp hc.pt hb.pss) λσ H Pr Z p4 kz E h=>?_;obtain⟨J,⟨n0,j0⟩,turn⟩:=h;refine⟨λn σ H=>∃Z,ay X.K Pr H σ Z/\J n Z,⟨n0,Z,E,j0⟩,λn σ1 H1 ⟨Z1,E1,j1⟩=>⟨Pr,Z1,_,E1,turn n Z1 j1,λb H2 Z2 E2 q=>?_⟩⟩
 cases b with
 |false=>exact⟨Z2,E2,q⟩
 | true =>
  refine⟨λσ' H'=>∃Z' m,ay X.K Pr H' σ' Z'/\m<n/\J m Z',λσ' H' ⟨Z',m,E',hm,j⟩=>⟨m,hm,Z',E',j⟩,Pr,Z2,_,E2,q,λσ' H' Z' E' ⟨m,hm,j⟩=>⟨Z',m,E',hm,j⟩,λσ' H' Z' E' p=>⟨Z',E',p⟩,λσ' H' Z' E' ⟨m,hm,j⟩=>⟨Z',m,E',hm,j⟩,λv τ H' r Z' E' p=>⟨τ,r,Z',E',p⟩⟩
abbrev Tg:=D->Ev->(Ev->Prop)->Prop
def JJ(X:Cx)(tg:Expr)(g:Tg):Prop:=∃gg:TG,PG X tg gg/\∀v σ H Pr Z x k,σ.length=X.N.length->ay X.K Pr H σ Z->Jx X.K H v x->g x Z k->gg v σ H λσ' H'=>H'=H/\σ'.length=X.N.length/\∃Z',ay X.K Pr H σ' Z'/\k Z'
def cw(i:Nat):Tg:=λx Z k=>k (Z.set i (.d x))
theorem rH{i:Nat}{x:Str}(hN:X.N.Nodup)(hi:X.N[i]?=some x)(hx:IQ X.env.scope x)(hf:X.fn x=true∨X.env.scope.names.lookup x=some .local:=by first|exact .inl rfl|exact .inr rfl|assumption):JJ X (.Name x pos) (cw i) :=
 ⟨_,rh hN hi hx hf,λv σ H Pr Z x k hl E r h=>⟨rfl,by simpa using hl,_,(E.cons_d r).store (by rw[hl];exact(Mx.mp hi).1),h⟩⟩
def hU:List Nat->List D->Ev->(Ev->Prop)->Prop
 |[],[],Z,k=>k Z
 |i::is,x::xs,Z,k=>hU is xs (Z.set i (.d x)) k
 |_,_,_,_=>False
def JK(X:Cx)(es:List Expr)(is:List Nat):Prop:=∃gg:IY,I0 X es gg/\es.length=is.length/\∀vs σ H Pr Z xs k,σ.length=X.N.length->ay X.K Pr H σ Z->bf X.K H vs xs->hU is xs Z k->gg vs σ H λσ' H'=>H'=H/\σ'.length=X.N.length/\∃Z',ay X.K Pr H σ' Z'/\k Z'
theorem ma:JK X [] []:=⟨_,AO,rfl,λvs σ H Pr Z xs k hl E r h=>by
 cases r with
 |nil=>exact⟨rfl,rfl,hl,Z,E,h⟩
 |cons _ _=>exact h.elim⟩
theorem cV{i:Nat}{is:List Nat}{x:Str}(hN:X.N.Nodup)(hi:X.N[i]?=some x)(hx:IQ X.env.scope x)(hr:JK X es is)(hf:X.fn x=true∨X.env.scope.names.lookup x=some .local:=by first|exact .inl rfl|exact .inr rfl|assumption)
  (hs:(assignEach (.Name x pos::es) X.env).map (·.2)=assign (.Name x pos) X.env::(assignEach es X.env).map (·.2):=by rfl):JK X (.Name x pos::es) (i::is):=by
 obtain⟨gg,hg,kz,q⟩:=hr;refine⟨_,yp (rh hN hi hx hf) hg hs,by simp[kz],λvs σ H Pr Z xs k hl E r h=>?_⟩
 cases r with
 |nil=>exact h.elim
 | cons r0 t =>
  refine⟨_,_,rfl,?_⟩;exact q _ _ H Pr _ _ k (by simpa using hl) ((E.cons_d r0).store (by rw[hl];exact(Mx.mp hi).1)) t h
def lz(is:List Nat):Tg:=λx Z k=>match x with
 |.tup xs=>hU is xs Z k
 |_=>False
theorem me:∀{is:List Nat}{xs:List D}{Z:Ev}{k:Ev->Prop},hU is xs Z k->xs.length=is.length
 |[],[],_,_,_=>rfl
 |_::is,_::xs,_,_,h=>by simp[me (is:=is) (xs:=xs) h]
 |[],_::_,_,_,h=>h.elim
 |_::_,[],_,_,h=>h.elim
theorem pV{is:List Nat}{k:Nat}(hc:X.calm=true)(h:JK X es is)(hn:(assignEach es X.env).length=is.length:=by rfl)(hst:(assignEach es X.env).findIdx? (·.1)=none:=by rfl):JJ X (.Tuple es k pos) (lz is):=by
 obtain⟨gg,hg,kz,q⟩:=h;refine⟨_,C9 hc hg hn hst,λv σ H Pr Z x k hl E r h=>?_⟩
 cases r with
 |tup hs rs=>exact⟨_,_,rfl,hs,by rw[rs.length];exact me h,q _ σ H Pr Z _ k hl E rs h⟩
 |_=>exact h.elim
def hW(g:Tg)(b:W Fl):List D->W Fl
 |[]=>λZ p4=>p4 .nx Z
 | x::xs=>λZ p4=>g x Z λZ1=>b Z1 λf Z2=>match f with
  |.nx=>hW g b xs Z2 p4
  |.ct=>hW g b xs Z2 p4
  |.bk=>p4 .nx Z2
  |.rt r=>p4 (.rt r) Z2
def mf:D->(List D->Prop)->Prop
 |.lst xs,k=>k xs
 |.tup xs,k=>k xs
 |_,_=>False
def DI(H H':Hp):Prop:=H'=H∨∃p o,H p=none/\H'=IH H p o
theorem ay.grown{K:PySem.W.Frag}{Pr H H':Hp}{σ:St}{Z:Ev}(E:ay K Pr H σ Z)(g:DI H H'):ay K Pr H' σ Z:=by
 rcases g with rfl|⟨p,o,h,rfl⟩
 . exact E
 . exact E.new h
def yM(K:PySem.W.Frag)(H:Hp)(J:It)(xs:List D):Prop:=∀H',m8 H H' ->
 (∀i x,xs[i]?=some x->J.go i H'/\∀v H2,J.yld i H' v H2->DI H' H2/\Jx K H2 v x)/\J.stop xs.length H'
def EI(X:Cx)(gV:List (Addr×Obj))(σ:St)(tg:Expr)(Pr:Hp)(p4:List D->Ev->Prop)(itv:Value)(s2:Shared):Prop :=
 ∃(it:Addr)(fp:List Addr)(tn:Nat->Heap->Prop)(J:It)(H':Hp)(xs:List D)(Z':Ev),itv=.ref it/\IR X gV σ H' s2/\Df X.prog X.w X.K tg J fp it tn/\tn 0 s2.heap/\(∀b∈fp,yh X gV H' b)/\ay X.K Pr H' σ Z'/\yM X.K H' J xs/\p4 xs Z'
def JL(X:Cx)(tg iter:Expr)(w:W (List D)):Prop :=
 ∀(gV:List (Addr×Obj))(s:Shared)(σ:St)(H Pr:Hp)(Z:Ev)(p4:List D->Ev->Prop),IR X gV σ H s->ay X.K Pr H σ Z->w Z p4 ->
  wpAny (model X.prog X.w) X.A (eval iter X.env) (λv s1=>wpAny (model X.prog X.w) X.A (pyIter v) (EI X gV σ tg Pr p4) X.xe s1) X.xe s
noncomputable def oO(lo:Int)(n:Nat):List D:=(List.range n).map λ(i:Nat)=>.int (lo+(i:Int))
theorem pW{K:PySem.W.Frag}{H:Hp}(lo:Int)(n:Nat):yM K H (Jb lo n) (oO lo n):=λH' p=>by
 refine⟨λi x e=>?_,?_⟩
 .
  have hi:i<n:=by have:=(Mx.mp e).1;simpa[oO]using this
  refine⟨hi,λv H2 ⟨e1,e2⟩=>?_⟩;subst e1 e2;have:x=.int (lo+(i:Int)):=by unfold oO at e;rw[Nc,List.getElem?_range hi]at e;simpa using e.symm
  subst this;exact⟨.inl rfl,.int _⟩
 . show n<=(oO lo n).length;simp[oO]
def kE:L->(Int->Prop)->Prop
 |.d (.int i),k=>k i
 |_,_=>False
theorem cW{r:L}{k:Int->Prop}(h:kE r k):∃i,r=.d (.int i)/\k i:=by
 cases r with
 | d x=>cases x with
  |int i=>exact⟨i,rfl,h⟩
  |_=>exact h.elim
 |_=>exact h.elim
def tw(j:Int):Prop:=-(2^62)<=j/\j<2^62
def pX(t:W L):W (List D):=λZ p4=>t Z λr Z1=>kE r λj=>tw j/\p4 (oO 0 j.toNat) Z1
def Bf(t u:W L):W (List D):=λZ p4=>t Z λr Z1=>kE r λi=>u Z1 λr Z2=>kE r λj=>tw i/\tw j/\p4 (oO i (j-i).toNat) Z2
theorem iE{t:W L}{p pos:Pos} (hg:Gl X "range") (hm:X.mg "range"=none) (ha:PL X a t) (hs:starEach [a] X.env=[(false,eval a X.env)]:=by rfl):JL X tg (.Call (.Name "range" p) [a] [] pos) (pX t):=by
 intro gV s σ H Pr Z p4 I E h;refine IT (vD (tg:=tg) hg hm (br ha.pe fx hs) hs gV s σ H (λJ H1=>∃Z1 n,J=Jb 0 n/\ay X.K Pr H1 σ Z1/\p4 (oO 0 n) Z1) I ?_) λv s1 q=>IT q λitv s2 ⟨it,fp,tn,J,H',e,I',T,t0,hf,Z1,n,eJ,E1,q⟩=>?_
 . refine⟨Pr,Z,_,E,h,λv H' r Z' E' p=>?_⟩;obtain⟨j,rfl,hj,p⟩:=cW p;obtain⟨_,e1,p1⟩:=E'.head_d;cases e1;cases p1;exact⟨j,rfl,hj.1,hj.2,Z',_,rfl,E'.tail,p⟩
 . subst eJ;exact⟨it,fp,tn,_,H',_,Z1,e,I',T,t0,hf,E1,pW 0 n,q⟩
theorem yN{t u:W L}{p pos:Pos} (hg:Gl X "range") (hm:X.mg "range"=none) (ha:PL X a t) (hb:PL X b u) (hs:starEach [a,b] X.env=[(false,eval a X.env),(false,eval b X.env)]:=by rfl) (hs2:starEach [b] X.env=[(false,eval b X.env)]:=by rfl):JL X tg (.Call (.Name "range" p) [a,b] [] pos) (Bf t u):=by
 intro gV s σ H Pr Z p4 I E h;refine IT (vE (tg:=tg) hg hm (br ha.pe (br hb.pe fx hs2) (hs.trans (by rw[hs2]))) hs hs2 gV s σ H (λJ H1=>∃Z1 lo n,J=Jb lo n/\ay X.K Pr H1 σ Z1/\p4 (oO lo n) Z1) I ?_) λv s1 q=>IT q λitv s2 ⟨it,fp,tn,J,H',e,I',T,t0,hf,Z1,lo,n,eJ,E1,q⟩=>?_
 . refine⟨Pr,Z,_,E,h,λv H' r Z' E' p=>?_⟩;obtain⟨i,rfl,p⟩:=cW p;obtain⟨_,e1,p1⟩:=E'.head_d;cases e1;cases p1;refine⟨Pr,Z',_,E'.tail,p,λv H2 r Z2 E2 p=>?_⟩;obtain⟨j,rfl,hi,hj,p⟩:=cW p;obtain⟨_,e1,p1⟩:=E2.head_d;cases e1;cases p1;exact⟨i,j,rfl,⟨hi.1,hi.2,hj.1,hj.2⟩,Z2,_,_,rfl,E2.tail,p⟩
 . subst eJ;exact⟨it,fp,tn,_,H',_,Z1,e,I',T,t0,hf,E1,pW lo n,q⟩
def Bg(s:W (List D))(g:Tg)(b:W Fl):W Fl:=λZ p4=>s Z λxs Z1=>hW g b xs Z1 p4
theorem pY{iter:Expr}{body:List Stmt}{w:W (List D)}{g:Tg}(hp:PassesOwn (model X.prog X.w) X.A X.env X.xe)(hc:X.calm=true)(hi:JL X tg iter w)(hg:JJ X tg g)(hb:Jz X body t)
  (hs:∀x,foldedSetIterable iter X.env x=pure x:=by intro _;rfl):PM X (.For tg iter body [] pos) (Bg w g t):=by
 intro gV s σ H Pr Z p4 I E h;obtain⟨gg,hg,hgg⟩:=hg;refine wpAny_For (IT (hi gV s σ H Pr Z _ I E h) λv s1 h1=>IT h1 λitv s2 h2=>?_) hs;obtain⟨it,fp,tn,J,H2,xs,Z2,e,I2,T,st2,f2,E2,G,w0⟩:=h2;subst e;have stat:∀{H':Hp},(∀b∈fp,H' b=none)->∀b∈fp,yh X gV H' b:=λhn b hb=>⟨hn b hb,(f2 b hb).2⟩;refine codeAny_forLoop_any (λn s'=>∃i σ' H' Z',n+i=xs.length/\IR X gV σ' H' s'/\tn i s'.heap/\(∀b∈fp,H' b=none)/\ay X.K (a9 H2 Z2) H' σ' Z'/\hW g t (xs.drop i) Z' p4) ?_ xs.length ⟨0,σ,H2,Z2,xL,I2,st2,λb hb=>(f2 b hb).1,E2.wide,by simpa using w0⟩;rintro n s3 ⟨i,σ3,H3,Z3,hn,I3,st3,fr3,E3,w3⟩;obtain⟨go,stop⟩:=G H3 (oH E2 E3.sub);by_cases hlt:i<xs.length
 .
  obtain⟨hgo,hy⟩:=go i xs[i] (MG hlt);rw[List.drop_eq_getElem_cons hlt]at w3;refine N9 hp (IT (T.item X rfl rfl rfl hc i gV s3 σ3 H3 X.xe I3 (stat fr3) st3 hgo) λr s4 ⟨u,hr,h4⟩=>?_);subst hr;refine N9 hp (IT h4 λ_ s5 ⟨x,H5,I5,r5,y5,st5,fr5⟩=>?_);obtain⟨gr,rx⟩:=hy x H5 y5;have I5':=I5.pinned (stat fr5) (T.obj _ _ st5);have E5:=E3.grown gr;refine N9 hp (IT (hg _ s5 σ3 H5 x u _ I5' r5 (hgg x σ3 H5 _ Z3 xs[i] _ I5.len E5 rx w3)) λ_ s6 ⟨σ6,H6,I6,e6,hl6,Z6,E6,q6⟩=>?_);subst e6;refine N9 hp (IT (hb _ s6 σ6 _ _ Z6 _ I6 E6 q6) λf s7 q7=>?_)
  have again:∀{σ7:St}{H7:Hp}{Z7:Ev},IR X (gV++pF fp s5.heap) σ7 H7 s7->ay X.K (a9 H2 Z2) H7 σ7 Z7->hW g t (xs.drop (i+1)) Z7 p4 ->
    ∃m,m<n/\∃i σ' H' Z',m+i=xs.length/\IR X gV σ' H' s7/\tn i s7.heap/\(∀b∈fp,H' b=none)/\ay X.K (a9 H2 Z2) H' σ' Z'/\hW g t (xs.drop i) Z' p4:=λ{σ7 H7 Z7} I7 E7 n7=>by
   refine⟨n-1,xL,i+1,σ7,H7,Z7,xL,I7.unpinned,T.keep _ _ _ st5 λb hb o e=>(I7.pin (b,o) (MM _ (MM _ (iC hb e)))).1,λb hb=>?_,E7,n7⟩;obtain⟨o,e,d⟩:=T.obj _ _ st5 b hb;exact(I7.pin (b,o) (MM _ (MM _ (iC hb e)))).2.1
  cases f with
  |next=>obtain⟨σ7,H7,Z7,I7,E7,n7⟩:=q7;exact again I7 E7 n7
  |cont=>obtain⟨σ7,H7,Z7,I7,E7,n7⟩:=q7;exact again I7 E7 n7
  |brk=>obtain⟨σ7,H7,Z7,I7,E7,q7⟩:=q7;exact⟨σ7,H7,Z7,I7.unpinned,E2.narrow E7,q7⟩
  |ret v=>obtain⟨x7,σ7,H7,r,Z7,τ,I7,r7,E7,q7⟩:=q7;exact⟨x7,σ7,H7,r,Z7,τ,I7.unpinned,r7,E2.narrow E7,q7⟩
 .
  have e:i=xs.length:=by omega
  subst e;refine N9 hp (IT (T.done X rfl rfl rfl hc xs.length gV s3 σ3 H3 X.xe I3 (stat fr3) st3 stop) λr s4 ⟨hr,I4⟩=>?_);subst hr;rw[List.drop_length]at w3;exact N8 ⟨σ3,H3,Z3,I4,E2.narrow E3,w3⟩
end
section
variable{X:Cx}{e a b c:Expr}{pos:Pos}{ta tb:W L}
def cM(i:Int):Prop:=i.natAbs<2^1000000
def bj:JB:=λx y k=>match x,y with
 |.int i,.int j=>k (.d (.int (i+j)))
 |.str i,.str j=>i.length+j.length<=sizeLine/\k (.d (.str (i++j)))
 |.lst xs,.lst ys=>xs.length+ys.length<=sizeLine/\∀a,k (.own a (xs++ys))
 |_,_=>False
def jc:JB:=λx y k=>match x,y with
 |.int i,.int j=>k (.d (.int (i-j)))
 |_,_=>False
def pZ:JB:=λx y k=>match x,y with
 |.int i,.int j=>j≠0/\j.natAbs<2^9000/\k (.d (.int (i.fdiv j)))
 |_,_=>False
def fY:JB:=λx y k=>match x,y with
 |.int i,.int j=>j≠0/\k (.d (.int (i.fmod j)))
 |_,_=>False
def p5:JB:=λx y k=>match x,y with
 |.int i,.int j=>0<=j/\j<=1000000/\i.natAbs<2^64/\k (.d (.int (i^j.toNat)))
 |_,_=>False
def Am:JB:=λx y k=>match x,y with
 |.int i,.int j=>k (.d (.bl (decide (i<j))))
 |_,_=>False
def yj:JB:=λx y k=>match x,y with
 |.int i,.int j=>k (.d (.bl (decide (i<=j))))
 |_,_=>False
def Bh:JB:=λx y k=>match x,y with
 |.int i,.int j=>k (.d (.bl (decide (j<i))))
 |_,_=>False
def C0:JB:=λx y k=>match x,y with
 |.int i,.int j=>k (.d (.bl (decide (j<=i))))
 |_,_=>False
theorem v9{i j:Int}(h1:cM i)(h2:cM j):IntMulOk i j:=IntMulOk.of_le (PySem.intBits_le_iff.mpr h1) (PySem.intBits_le_iff.mpr h2) x_
theorem Bi:Jc X (binaryOp .Mult) (rI (λi j=>cM i/\cM j) λi j=>.int (i*j)):=Jg λ_ _ _ _ _ _ _ hc q=>mul_int q (v9 hc.1 hc.2)
theorem Bj:Jc X (binaryOp .FloorDiv) (rI (λi j=>j≠0/\j.natAbs<2^9000) λi j=>.int (i.fdiv j)):=Jg λi j _ _ _ _ _ hc q=>floordiv_int hc.1 q (.inl (PyProof.noPylong_of_log2 ((Nat.log2_lt (by have:=hc.1;omega)).mpr hc.2)))
theorem Bk:Jc X (binaryOp .Add) (λx y H Q=>∃l b xs zs,x=.ref l/\y=.ref b/\IW X.K H l xs/\IW X.K H b zs/\xs.length+zs.length<=sizeLine/\∀p,H p=none->Q (.ref p) (IH H p (.lst (xs++zs)))):=by
 intro gV s σ H x y v u Q I rx ry h;obtain⟨l,b,xs,zs,rfl,rfl,hH,hB,hz,q⟩:=h;cases rx;cases ry;obtain⟨its,r,⟨o,n,e,c,d,f⟩,z⟩:=I.list hH;obtain⟨its2,r2,⟨o2,n2,e2,c2,d2,f2⟩,z2⟩:=I.list hB;obtain⟨cl,dd,dt,sl⟩:=o;obtain⟨cl2,dd2,dt2,sl2⟩:=o2;simp only at c f c2 f2;subst c f c2 f2;have hl:=r.length;have hl2:=r2.length;refine concat_meets ⟨_,e,rfl⟩ ⟨_,e2,rfl⟩ noFill_list_add seq_list_add PySem.F.slot_list_add PySem.F.entry_list_add (PySem.F.args_list_add_2 _ _) (list_addW l b its.toArray its2.toArray n n2 dd dd2 sl sl2 (by rw[MF,MF];omega)) ⟨e,e2,?_⟩;have ea:its.toArray++its2.toArray=(its++its2).toArray:=by simp
 rw[ea];exact⟨.ref _,_,I.lnew (t':=s.toks) (r.append r2) (by rw[MK];omega),rfl,q _ I.fresh⟩
theorem yO{x y:D}{k:L->Prop}(h:bj x y k):(∃i j,x=.int i/\y=.int j/\k (.d (.int (i+j))))∨(∃i j,x=.str i/\y=.str j/\i.length+j.length<=sizeLine/\k (.d (.str (i++j))))∨∃xs ys,x=.lst xs/\y=.lst ys/\xs.length+ys.length<=sizeLine/\∀a,k (.own a (xs++ys)):=by
 unfold bj at h;split at h
 . exact .inl ⟨_,_,rfl,rfl,h⟩
 . exact .inr (.inl ⟨_,_,rfl,rfl,h⟩)
 . exact .inr (.inr ⟨_,_,rfl,rfl,h⟩)
 . exact h.elim
theorem Bl:JC X (binaryOp .Add) (λx y k=>∃i j,x=.int i/\y=.int j/\k (.d (.int (i+j)))):=JC.of Dh λσ H Pr Z x y dx dy p4 E px py ⟨i,j,e1,e2,h⟩=>by subst e1 e2;cases px;cases py;exact⟨i,j,rfl,rfl,_,E.cons_d (.int _),h⟩
theorem Bm:JC X (binaryOp .Add) (λx y k=>∃i j,x=.str i/\y=.str j/\i.length+j.length<=sizeLine/\k (.d (.str (i++j)))):=JC.of uy λσ H Pr Z x y dx dy p4 E px py ⟨i,j,e1,e2,z,h⟩=>by subst e1 e2;cases px;cases py;exact⟨i,j,rfl,rfl,z,_,E.cons_d (.str _),h⟩
theorem Bn:JC X (binaryOp .Add) (λx y k=>∃xs ys,x=.lst xs/\y=.lst ys/\xs.length+ys.length<=sizeLine/\∀a,k (.own a (xs++ys))):=JC.of Bk λσ H Pr Z x y dx dy p4 E px py ⟨xs,ys,e1,e2,z,h⟩=>by
 subst e1 e2
 cases px with
 | lst h1 r1 =>
  cases py with
  |lst h2 r2=>exact⟨_,_,_,_,rfl,rfl,h1.l,h2.l,by rw[r1.length,r2.length];exact z,λp hp=>⟨_,E.cons_own hp (r1.append r2),h p⟩⟩
theorem aZ:JC X (binaryOp .Add) bj:=by
 intro gV s σ H Pr Z x y v u dx dy p4 I rx ry E px py ho;rcases yO ho with h|h|h
 . exact Bl gV s σ H Pr Z x y v u dx dy p4 I rx ry E px py h
 . exact Bm gV s σ H Pr Z x y v u dx dy p4 I rx ry E px py h
 . exact Bn gV s σ H Pr Z x y v u dx dy p4 I rx ry E px py h
theorem tD{f:Value->Value->Sem Value}{C:Int->Int->Prop}{g:Int->Int->V}{gd:Int->Int->D}(h:Jc X f (rI C g))(hg:∀K H i j,Jx K H (g i j) (gd i j)) :
  JC X f (λx y k=>∃i j,x=.int i/\y=.int j/\C i j/\k (.d (gd i j))) :=
 JC.of h λσ H Pr Z x y dx dy p4 E px py ⟨i,j,e1,e2,z,h⟩=>by subst e1 e2;cases px;cases py;exact⟨i,j,rfl,rfl,z,_,E.cons_d (hg _ _ _ _),h⟩
theorem mh{f:Value->Value->Sem Value}{g:Int->Int->V}{gd:Int->Int->D}(h:Jc X f (Jf g))(hg:∀K H i j,Jx K H (g i j) (gd i j)) :
  JC X f (λx y k=>∃i j,x=.int i/\y=.int j/\k (.d (gd i j))) :=
 JC.of h λσ H Pr Z x y dx dy p4 E px py ⟨i,j,e1,e2,h⟩=>by subst e1 e2;cases px;cases py;exact⟨i,j,rfl,rfl,_,E.cons_d (hg _ _ _ _),h⟩
theorem gE:JC X (binaryOp .Sub) jc:=(mh Di (gd:=λi j=>.int (i-j)) λ_ _ _ _=>.int _).imp λx y k h=>by
 unfold jc at h;split at h
 . exact⟨_,_,rfl,rfl,h⟩
 . exact h.elim
theorem DJ:JC X (binaryOp .Mult) (λx y k=>∃i j,x=.int i/\y=.int j/\(cM i/\cM j)/\k (.d (.int (i*j)))):=tD Bi (gd:=λi j=>.int (i*j)) λ_ _ _ _=>.int _
def hX:JB:=λx y k=>match x,y with
 |.int i,.int j=>cM i/\cM j/\k (.d (.int (i*j)))
 |_,_=>False
theorem hZ:JC X (binaryOp .Mult) hX:=DJ.imp λx y k h=>by
 unfold hX at h;split at h
 . exact⟨_,_,rfl,rfl,⟨h.1,h.2.1⟩,h.2.2⟩
 . exact h.elim
theorem p6:JC X (binaryOp .FloorDiv) pZ:=(tD Bj (gd:=λi j=>.int (i.fdiv j)) λ_ _ _ _=>.int _).imp λx y k h=>by
 unfold pZ at h;split at h
 . exact⟨_,_,rfl,rfl,⟨h.1,h.2.1⟩,h.2.2⟩
 . exact h.elim
theorem dS:JC X (binaryOp .Mod) fY:=(tD AQ (gd:=λi j=>.int (i.fmod j)) λ_ _ _ _=>.int _).imp λx y k h=>by
 unfold fY at h;split at h
 . exact⟨_,_,rfl,rfl,h.1,h.2⟩
 . exact h.elim
theorem p7:JC X (binaryOp .Pow) p5:=(tD Dj (gd:=λi j=>.int (i^j.toNat)) λ_ _ _ _=>.int _).imp λx y k h=>by
 unfold p5 at h;split at h
 . exact⟨_,_,rfl,rfl,⟨h.1,h.2.1,h.2.2.1⟩,h.2.2.2⟩
 . exact h.elim
theorem Bo:JC X (compareOp .Lt) Am:=(mh Dm (gd:=λi j=>.bl (decide (i<j))) λ_ _ _ _=>.bl _).imp λx y k h=>by
 unfold Am at h;split at h
 . exact⟨_,_,rfl,rfl,h⟩
 . exact h.elim
theorem DK:JC X (compareOp .LtE) yj:=(mh Dn (gd:=λi j=>.bl (decide (i<=j))) λ_ _ _ _=>.bl _).imp λx y k h=>by
 unfold yj at h;split at h
 . exact⟨_,_,rfl,rfl,h⟩
 . exact h.elim
theorem yP:JC X (compareOp .Gt) Bh:=(mh FR (gd:=λi j=>.bl (decide (j<i))) λ_ _ _ _=>.bl _).imp λx y k h=>by
 unfold Bh at h;split at h
 . exact⟨_,_,rfl,rfl,h⟩
 . exact h.elim
theorem Bp:JC X (compareOp .GtE) C0:=(mh FT (gd:=λi j=>.bl (decide (j<=i))) λ_ _ _ _=>.bl _).imp λx y k h=>by
 unfold C0 at h;split at h
 . exact⟨_,_,rfl,rfl,h⟩
 . exact h.elim
mutual
noncomputable def JM:D->PyData
 |.non=>.none
 |.bl b=>.bool b
 |.int i=>.int i
 |.str x=>.str x
 |.tup xs=>.tuple (fT xs)
 |.lst xs=>.list (fT xs)
 |.dct _=>.dict []
 |.exc _ _ _=>.dict []
 |.fn _ _=>.dict []
 |.dk _ _=>.dict []
 |.gf _=>.dict []
noncomputable def fT:List D->List PyData
 |[]=>[]
 |x::xs=>JM x::fT xs
end
noncomputable def JN(x y:D):Bool:=PyData.eqv (JM x) (JM y)
def bY(x:D):Prop:=SeqAt.shaped (JM x)=true
def kF:JB:=λx y k=>bY x/\bY y/\k (.d (.bl (JN x y)))
def An:JB:=λx y k=>bY x/\bY y/\k (.d (.bl (!JN x y)))
mutual
theorem jH{gV:List (Addr×Obj)}{σ:St}{H:Hp}{s:Shared}(I:IR X gV σ H s):∀(d:D)(x:V)(u:Value),bF x u->Jx X.K H x d->(JM d).canLay0=true->∃as,Reads s.heap u (JM d) as
 |.non,_,_,rv,r,_=>by cases r;cases rv;exact⟨_,.none⟩
 |.bl b,_,_,rv,r,_=>by cases r;cases rv;exact⟨_,.bool b⟩
 |.int i,_,_,rv,r,_=>by cases r;obtain⟨t,rfl⟩:=rv;exact⟨_,.int i t⟩
 |.str z,_,_,rv,r,_=>by cases r;obtain⟨t,rfl⟩:=rv;exact⟨_,.str z t⟩
 | .tup xs,_,_,rv,r,hc=>by
  cases r with
  | tup h rs =>
   cases rv
   obtain⟨its,vs,⟨o,e,c,n,d⟩,_⟩:=I.tuple h
   obtain⟨as,ra⟩:=jd I xs _ _ vs rs hc
   exact⟨_,.tuple (xs:=fT xs) e c d (by simpa using ra)⟩
 | .lst xs,_,_,rv,r,hc=>by
  cases r with
  | lst h rs =>
   cases rv
   obtain⟨its,vs,⟨o,n,e,c,_,d⟩,_⟩:=I.list h.l
   obtain⟨as,ra⟩:=jd I xs _ _ vs rs hc
   exact⟨_,.list (xs:=fT xs) e c d (by simpa using ra)⟩
 |.dct _,_,_,_,_,hc=>nomatch hc
 |.exc _ _ _,_,_,_,_,hc=>nomatch hc
 |.fn _ _,_,_,_,_,hc=>nomatch hc
 |.dk _ _,_,_,_,_,hc=>nomatch hc
 |.gf _,_,_,_,_,hc=>nomatch hc
theorem jd{gV:List (Addr×Obj)}{σ:St}{H:Hp}{s:Shared}(I:IR X gV σ H s):∀(ds:List D)(vs:List V)(us:List Value),bL vs us->bf X.K H vs ds->PyData.canLayAll0 (fT ds)=true->∃as,ReadsAll s.heap us (fT ds) as
 |[],_,_,rv,r,_=>by cases r;cases rv;exact⟨_,.nil⟩
 | d::ds,_,_,rv,r,hc=>by
  have hc':(JM d).canLay0=true/\PyData.canLayAll0 (fT ds)=true:=by simpa[fT,PyData.canLayAll0]using hc
  cases r with
  | cons r0 rs =>
   cases rv with
   | cons v0 vs =>
    obtain⟨as,ra⟩:=jH I d _ _ v0 r0 hc'.1
    obtain⟨bs,rb⟩:=jd I ds _ _ vs rs hc'.2
    exact⟨_,.cons ra rb⟩
end
theorem du(hu:X.A.units+64<cLine):JC X (compareOp .Eq) kF:=by intro gV s σ H Pr Z x y v u dx dy p4 I rx ry E px py ⟨h1,h2,ho⟩;obtain⟨as,ra⟩:=jH I dx x v rx px (SeqAt.canLay_of_shaped h1);obtain⟨bs,rb⟩:=jH I dy y u ry py (SeqAt.canLay_of_shaped h2);exact eq_dataH ra rb h1 h2 hu ⟨.bl _,H,_,I,rfl,E.cons_d (.bl _),ho⟩
theorem uK(hu:X.A.units+64<cLine):JC X (compareOp .NotEq) An:=by intro gV s σ H Pr Z x y v u dx dy p4 I rx ry E px py ⟨h1,h2,ho⟩;obtain⟨as,ra⟩:=jH I dx x v rx px (SeqAt.canLay_of_shaped h1);obtain⟨bs,rb⟩:=jH I dy y u ry py (SeqAt.canLay_of_shaped h2);exact ne_dataH ra rb h1 h2 hu ⟨.bl _,H,_,I,rfl,E.cons_d (.bl _),ho⟩
theorem DL:JC X (compareOp .Is) (λx y k=>y=.non/\k (.d (.bl (match x with | .non=>true|_=>false)))):=JC.of Do λσ H Pr Z x y dx dy p4 E px py ⟨e,h⟩=>by subst e;cases py;refine⟨rfl,_,E.cons_d (.bl _),?_⟩;cases px<;>exact h
def bI:JB:=λx y k=>match x,y with
 |.lst xs,.int i=>∃v,Jo xs i=some v/\k (.d v)
 |.tup xs,.int i=>∃v,Jo xs i=some v/\k (.d v)
 |.str z,.int i=>z.length<=sizeLine/\∃c,Jo z.cps.toList i=some c/\k (.d (.str ⟨#[c]⟩))
 |_,_=>False
theorem rJ{K:PySem.W.Frag}{H:Hp}{vs:List V}{xs:List D}(r:bf K H vs xs){i:Int}{x:D}(h:Jo xs i=some x):∃v,Jo vs i=some v/\Jx K H v x:=by
 unfold Jo at h ⊢;rw[r.length]
 cases q:Jn xs.length i with
 |none=>rw[q]at h;cases h
 | some j =>
  rw[q]at h;exact r.get h
theorem Bq{x y:D}{k:L->Prop}(h:bI x y k):∃i,y=.int i/\((∃xs,x=.lst xs/\∃v,Jo xs i=some v/\k (.d v))∨(∃xs,x=.tup xs/\∃v,Jo xs i=some v/\k (.d v))∨∃z,x=.str z/\z.length<=sizeLine/\∃c,Jo z.cps.toList i=some c/\k (.d (.str ⟨#[c]⟩))):=by
 unfold bI at h;split at h
 . exact⟨_,rfl,.inl ⟨_,rfl,h⟩⟩
 . exact⟨_,rfl,.inr (.inl ⟨_,rfl,h⟩)⟩
 . exact⟨_,rfl,.inr (.inr ⟨_,rfl,h⟩)⟩
 . exact h.elim
theorem a7(ha:PL X a ta)(hb:PL X b tb)(hs:rk b):PL X (.Subscript a b pos) (aK bI ta tb):=by
 intro gV s σ H Pr Z p4 I E h;refine Subscript_ (two (R:=λdx dy Z2=>bI dx dy λr=>p4 r Z2) ha hb I E h λv u s2 x y H2 dx dy Z2 I2 r1 r2 E2 p1 p2 q=>?_);have IV:∀(Q:VK),(∀z H',Q z H'->∃r,ay X.K Pr H' (some z::σ) (r::Z2)/\p4 r Z2)->∀w s',EP X gV σ Q w s'->EL X gV σ Pr p4 w s':=λQ hQ w s' ⟨z,H',I',rz,q⟩=>by obtain⟨r,E',p⟩:=hQ z H' q;exact⟨z,H',r,Z2,I',rz,E',p⟩
 have Eσ:=E2.tail.tail;obtain⟨i,rfl,⟨xs,rfl,z,hz',q⟩|⟨xs,rfl,z,hz',q⟩|⟨z,rfl,hz,c,hc,q⟩⟩:=Bq q
 .
  cases p2
  cases p1 with
  | lst hz rs =>
   obtain⟨w,hw,rw⟩:=rJ rs hz';exact IT (vR a b gV s2 σ H2 _ _ v u (λz H'=>z=w/\H'=H2) I2 r1 r2 ⟨_,_,i,w,rfl,rfl,hz.l,hw,rfl,rfl⟩ (hs _ _)) (IV _ λz H' ⟨e1,e2⟩=>by subst e1 e2;exact⟨_,Eσ.cons_d rw,q⟩)
 .
  cases p2
  cases p1 with
  | tup hz rs =>
   obtain⟨w,hw,rw⟩:=rJ rs hz';exact IT (Dt a b gV s2 σ H2 _ _ v u (λz H'=>z=w/\H'=H2) I2 r1 r2 ⟨_,_,i,w,rfl,rfl,hz,hw,rfl,rfl⟩ (hs _ _)) (IV _ λz H' ⟨e1,e2⟩=>by subst e1 e2;exact⟨_,Eσ.cons_d rw,q⟩)
 . cases p2;cases p1;exact IT (Du a b gV s2 σ H2 _ _ v u (λz H'=>z=.str ⟨#[c]⟩/\H'=H2) I2 r1 r2 ⟨z,i,c,rfl,rfl,hz,hc,rfl,rfl⟩ (hs _ _)) (IV _ λz H' ⟨e1,e2⟩=>by subst e1 e2;exact⟨_,Eσ.cons_d (.str _),q⟩)
end
section
variable{X:Cx}{e a b c:Expr}{es:List Expr}{pos p:Pos}{ta:W L}{x:Str}{bs:List (Option Nat)}{t:W (List L)}{id T:String}
abbrev JO:=List D->(L->Prop)->Prop
def eU(X:Cx)(f:Value)(op:JO):Prop :=
 ∀(gV:List (Addr×Obj))(s:Shared)(σ:St)(H Pr:Hp)(Z:Ev)(vs:List V)(us:List Value)(ds:List D)(p4:L->Prop),IR X gV σ H s->bL vs us->ay X.K Pr H σ Z->bf X.K H vs ds->op ds p4 ->
  wpAny (model X.prog X.w) X.A (call f us) (λw s'=>∃z H' r,IR X gV σ H' s'/\bF z w/\ay X.K Pr H' (some z::σ) (r::Z)/\p4 r) X.xe s
theorem eU.of{f:Value}{r:List V->Hp->VK->Prop}{op:JO}(h:gY X f r)(q:∀σ H Pr Z vs ds p4,ay X.K Pr H σ Z->bf X.K H vs ds->op ds p4->r vs H λz H'=>∃r,ay X.K Pr H' (some z::σ) (r::Z)/\p4 r):eU X f op :=
 λgV s σ H Pr Z vs us ds p4 I rv E ps ho=>IT (h gV s σ H vs us _ I rv (q σ H Pr Z vs ds p4 E ps ho)) λw s' ⟨z,H',I',rz,r,E',p⟩=>⟨z,H',r,I',rz,E',p⟩
def ba(op:JO)(t:W (List L)):W L:=λZ p4=>t Z λls Z1=>yK ls λds=>op ds λr=>p4 r Z1
theorem bb(hc:eU X (.builtin id) op)(hg:Gl X x)(hm:X.mg x=none)(hv:bootBuiltins x=some (.builtin id))(ha:Jy X (e::es) bs t) (hn:x≠"__name__":=by decide) (hdb:(x == ("__debug__" : Str))=false:=by decide)
  (he:starEach (e::es) X.env=(false,eval e X.env)::starEach es X.env:=by rfl) (hpl:(backTo pos (starEach es X.env)).any (·.1)=false:=by rfl):PL X (.Call (.Name x p) (e::es) [] pos) (ba op t):=by
 intro gV s σ H Pr Z p4 I E h;refine Nw (k9 I hg hm hv ?_ hn hdb);refine PyProof.Rows.callWith_builtin1 (IT (ha pos gV s σ H Pr Z _ I E h) λus s1 ⟨vs,H1,ls,Z1,I1,r1,hl,hb,E1,_,q1⟩=>?_) he hpl;obtain⟨ds,rfl,q2⟩:=hG q1;have kz:vs.length=ds.length:=by simpa using hl
 exact IT (hc gV s1 σ H1 Pr Z1 vs us ds _ I1 r1 (E1.drop (by simp[kz])) (hJ kz E1) q2) λw s2 ⟨z,H2,r,I2,rz,E2,q⟩=>⟨z,H2,r,Z1,I2,rz,E2,q⟩
theorem bQ(hc:eU X (.type T) op)(hg:Gl X x)(hm:X.mg x=none)(hv:bootBuiltins x=some (.type T))(ha:Jy X (e::es) bs t) (hn:x≠"__name__":=by decide) (hdb:(x == ("__debug__" : Str))=false:=by decide)
  (he:starEach (e::es) X.env=(false,eval e X.env)::starEach es X.env:=by rfl) (hpl:(backTo pos (starEach es X.env)).any (·.1)=false:=by rfl):PL X (.Call (.Name x p) (e::es) [] pos) (ba op t):=by
 intro gV s σ H Pr Z p4 I E h;refine Nw (k9 I hg hm hv ?_ hn hdb);refine N1 (IT (ha pos gV s σ H Pr Z _ I E h) λus s1 ⟨vs,H1,ls,Z1,I1,r1,hl,hb,E1,_,q1⟩=>?_) he hpl;obtain⟨ds,rfl,q2⟩:=hG q1;have kz:vs.length=ds.length:=by simpa using hl
 exact IT (hc gV s1 σ H1 Pr Z1 vs us ds _ I1 r1 (E1.drop (by simp[kz])) (hJ kz E1) q2) λw s2 ⟨z,H2,r,I2,rz,E2,q⟩=>⟨z,H2,r,Z1,I2,rz,E2,q⟩
def d4:JO:=λds k=>match ds with
 |[.lst xs]=>k (.d (.int xs.length))
 |[.tup xs]=>k (.d (.int xs.length))
 |[.str x]=>x.length<=sizeLine/\k (.d (.int x.length))
 |_=>False
theorem lA{K:PySem.W.Frag}{H:Hp}{vs:List V}{d:D}(r:bf K H vs [d]):∃v,vs=[v]/\Jx K H v d:=by
 cases r with
 |cons h t=>cases t;exact⟨_,rfl,h⟩
theorem DM{K:PySem.W.Frag}{H:Hp}{vs:List V}{d d':D}(r:bf K H vs [d,d']):∃v w,vs=[v,w]/\Jx K H v d/\Jx K H w d':=by
 cases r with
 | cons h t=>cases t with
  |cons h' t=>cases t;exact⟨_,_,rfl,h,h'⟩
theorem fz:eU X (.builtin "len") d4:=eU.of (lb.or pM) λσ H Pr Z vs ds p4 E ps h=>by
 unfold d4 at h;split at h
 .
  obtain⟨v,rfl,r⟩:=lA ps
  cases r with
  |lst hz rs=>exact .inl ⟨_,_,rfl,.inl hz.l,_,E.cons_d (.int _),by rw[rs.length];exact h⟩
 .
  obtain⟨v,rfl,r⟩:=lA ps
  cases r with
  |tup hz rs=>exact .inl ⟨_,_,rfl,.inr hz,_,E.cons_d (.int _),by rw[rs.length];exact h⟩
 .
  obtain⟨v,rfl,r⟩:=lA ps
  cases r with
  |str z=>exact .inr ⟨_,rfl,h.1,_,E.cons_d (.int _),h.2⟩
 . exact h.elim
def uL:JO:=λds k=>match ds with
 |[.int i]=>k (.d (.int (if i<0 then -i else i)))
 |_=>False
theorem wb:eU X (.builtin "abs") uL:=eU.of yu λσ H Pr Z vs ds p4 E ps h=>by
 unfold uL at h;split at h
 .
  obtain⟨v,rfl,r⟩:=lA ps
  cases r with
  |int i=>exact⟨_,rfl,_,E.cons_d (.int _),h⟩
 . exact h.elim
def yQ:JO:=λds k=>match ds with
 |[.int i,.int j]=>k (.d (.int (if j > i then j else i)))
 |_=>False
def yR:JO:=λds k=>match ds with
 |[.int i,.int j]=>k (.d (.int (if j<i then j else i)))
 |_=>False
theorem DN(hc:X.calm=true):eU X (.builtin "max") yQ:=eU.of (vH hc) λσ H Pr Z vs ds p4 E ps h=>by
 unfold yQ at h;split at h
 .
  obtain⟨v,w,rfl,r,r'⟩:=DM ps
  cases r with
  | int i=>cases r' with
   |int j=>exact⟨_,_,rfl,_,E.cons_d (.int _),h⟩
 . exact h.elim
theorem DO(hc:X.calm=true):eU X (.builtin "min") yR:=eU.of (vI hc) λσ H Pr Z vs ds p4 E ps h=>by
 unfold yR at h;split at h
 .
  obtain⟨v,w,rfl,r,r'⟩:=DM ps
  cases r with
  | int i=>cases r' with
   |int j=>exact⟨_,_,rfl,_,E.cons_d (.int _),h⟩
 . exact h.elim
def wc:JO:=λds k=>match ds with
 |[.int i]=>k (.d (.int i))
 |[.bl b]=>k (.d (.int (if b then 1 else 0)))
 |_=>False
theorem Ao:eU X (.type "int") wc:=eU.of vJ λσ H Pr Z vs ds p4 E ps h=>by
 unfold wc at h;split at h
 .
  obtain⟨v,rfl,r⟩:=lA ps
  cases r with
  |int i=>exact .inl ⟨_,rfl,_,E.cons_d (.int _),h⟩
 .
  obtain⟨v,rfl,r⟩:=lA ps
  cases r with
  |bl i=>exact .inr ⟨_,rfl,_,E.cons_d (.int _),h⟩
 . exact h.elim
def jI:JO:=λds k=>match ds with
 |[.lst xs]=>∀a,k (.own a xs)
 |[.tup xs]=>∀a,k (.own a xs)
 |_=>False
theorem kG:eU X (.type "list") jI:=eU.of pN λσ H Pr Z vs ds p4 E ps h=>by
 unfold jI at h;split at h
 .
  obtain⟨v,rfl,r⟩:=lA ps
  cases r with
  |lst hz rs=>exact⟨_,_,rfl,.inl hz.l,λl hl=>⟨_,E.cons_own hl rs,h l⟩⟩
 .
  obtain⟨v,rfl,r⟩:=lA ps
  cases r with
  |tup hz rs=>exact⟨_,_,rfl,.inr hz,λl hl=>⟨_,E.cons_own hl rs,h l⟩⟩
 . exact h.elim
def oP:JO:=λds k=>match ds with
 |[.lst xs]=>k (.d (.tup xs))
 |[.tup xs]=>k (.d (.tup xs))
 |_=>False
theorem yS:eU X (.type "tuple") oP:=eU.of oC λσ H Pr Z vs ds p4 E ps h=>by
 unfold oP at h;split at h
 .
  obtain⟨v,rfl,r⟩:=lA ps
  cases r with
  |lst hz rs=>exact⟨_,_,rfl,.inl ⟨hz.l,λl hl=>⟨_,E.cons_tup hl rs,h⟩⟩⟩
 .
  obtain⟨v,rfl,r⟩:=lA ps
  cases r with
  |tup hz rs=>exact⟨_,_,rfl,.inr ⟨hz,_,E.cons_d (.tup hz rs),h⟩⟩
 . exact h.elim
noncomputable def JP:D->Value
 |.non=>.type "NoneType"
 |.bl _=>.type "bool"
 |.int _=>.type "int"
 |.str _=>.type "str"
 |.tup _=>.type "tuple"
 |.lst _=>.type "list"
 |.dct _=>.type "dict"
 |.exc _ _ _=>.none
 |.fn _ _=>.type "function"
 |.dk _ _=>.type "dict"
 |.gf _=>.type "function"
def JQ(K:PySem.W.Frag)(d:D)(t:Value):Prop:=match d with
 |.exc c _ _=>∃C,t=.ref C/\g9 K c C=true
 |d=>t=JP d
theorem oQ{gV:List (Addr×Obj)}{σ:St}{H:Hp}{s:Shared}{a:Addr}{o:Obj}{u:HO}{C:Addr}{ns:List Str}{vs:List V}(I:IR X gV σ H s)(h:H a=some (.frz o u))(hc:o.cls=.ref C)(hn:PySem.W.notCls o=true)(hf:XF H o.dict ns vs):∃od,PySem.W.InstAt s.heap a o C od/\∀d,o.dict=some d->∃q,od=some q/\s.heap.get? d=some q:=by
 have e:=(show s.heap.get? a=some o/\_ from I.hok a _ h).1;rcases hf with⟨_,_,z⟩|⟨d,od,z,h2,_⟩
 . exact⟨none,⟨e,hc,hn,by rw[z];trivial⟩,λd q=>by rw[z]at q;cases q⟩
 . have e2:=(show s.heap.get? d=some od/\_ from I.hok d _ h2).1;exact⟨some od,⟨e,hc,hn,by rw[z];exact e2⟩,λd' q=>by rw[z]at q;cases q;exact⟨od,rfl,e2⟩⟩
theorem tE{gV:List (Addr×Obj)}{σ:St}{H:Hp}{s:Shared}{x:V}{u c:Value}{d:D}{b:Bool}{Q:Value->Shared->Prop}{A:Around}{E:Value->Shared->Prop}(I:IR X gV σ H s)(rx:bF x u)(r:Jx X.K H x d)(e:∀t,JQ X.K d t->PySem.W.kitOne X.K t c=some b)(h:∀tk,Q (.bool b) {s with toks:=tk}) :
  wpAny (model X.prog X.w) A (call (.builtin "isinstance") [u,c]) Q E s:=by
 cases r with
 |non=>cases rx;exact NB PySem.W.kitx_none I.kIn True.intro (e _ rfl) (λz=>nomatch z) h
 |bl y=>cases rx;exact NB PySem.W.kitx_bool I.kIn True.intro (e _ rfl) (λz=>nomatch z) h
 |int i=>obtain⟨t,rfl⟩:=rx;exact NB PySem.W.kitx_int I.kIn True.intro (e _ rfl) (λz=>nomatch z) h
 |str y=>obtain⟨t,rfl⟩:=rx;exact NB PySem.W.kitx_str I.kIn True.intro (e _ rfl) (λz=>nomatch z) h
 | lst hz rs =>
  cases rx;obtain⟨its,_,⟨o,n,e1,c1,_,_⟩,_⟩:=I.list hz.l;exact NB PySem.W.kitx_list I.kIn ⟨o,e1,c1⟩ (e _ rfl) (λz=>nomatch z) h
 | tup hz rs =>
  cases rx;obtain⟨its,_,⟨o,e1,c1,_⟩,_⟩:=I.tuple hz;exact NB PySem.W.kitx_tuple I.kIn ⟨o,e1,c1⟩ (e _ rfl) (λz=>nomatch z) h
 | @dct a o kvs hz =>
  cases rx;obtain⟨_,_,_,vs,_,o',es,ep,h1,h2,_⟩:=(show cg X.prog X.w H s.heap a (.frz o (.dK kvs))from I.hok a _ hz);exact NB PySem.W.kitx_dict I.kIn ⟨o',h1,h2.1⟩ (e _ rfl) (λz=>nomatch z) h
 | @exc a o u cc C ns vs ds h1 hv hc hn hs hq hf rs =>
  cases rx;obtain⟨od,Ia,_⟩:=oQ I h1 hc hn hf;obtain⟨LL,cd,S⟩:=c8 hs;exact NB (sW S) I.kIn ⟨_,_,Ia⟩ (e _ ⟨C,rfl,hs⟩) (λz=>nomatch z) h
 | fn hl hf hq hc hz hd hv hm r =>
  cases rx;exact NB oG I.kIn ⟨_,(I.hok _ _ hf).1,rfl⟩ (e _ rfl) (λz=>nomatch z) h
 | @dk a' o kvs ds hz rs =>
  cases rx;obtain⟨_,_,_,vs,_,o',es,ep,h1,h2,_⟩:=(show cg X.prog X.w H s.heap a' (.frz o (.dK kvs))from I.hok a' _ hz);exact NB PySem.W.kitx_dict I.kIn ⟨o',h1,h2.1⟩ (e _ rfl) (λz=>nomatch z) h
 | gf hx hl hk =>
  cases rx;exact NB oG I.kIn ⟨_,I.kIn _ _ hl,rfl⟩ (e _ rfl) (λz=>nomatch z) h
noncomputable def je(T:String):D->Bool
 |.non=>T == "NoneType"
 |.bl _=>T == "bool" ||T == "int"
 |.int _=>T == "int"
 |.str _=>T == "str"
 |.tup _=>T == "tuple"
 |.lst _=>T == "list"
 |.dct _=>T == "dict"
 |.exc _ _ _=>(["ValueError","Exception","BaseException","object"]:List String).contains T
 |.fn _ _=>T == "function"
 |.dk _ _=>T == "dict"
 |.gf _=>T == "function"
def jf(T:String):D->(L->Prop)->Prop:=λd k=>k (.d (.bl (je T d)))
theorem gF{T:String}{y:Str}{py:Pos}(hT:∀ K d t,JQ K d t->PySem.W.kitOne K t (.type T)=some (je T d)) (hg:Gl X "isinstance") (hm:X.mg "isinstance"=none) (hy:Gl X y) (hmy:X.mg y=none) (hby:bootBuiltins y=some (.type T)) (ha:PL X a ta)
  (hny:y≠"__name__":=by decide) (hdy:(y == ("__debug__" : Str))=false:=by decide)
  (h1:starEach [a,.Name y py] X.env=(false,eval a X.env)::starEach [.Name y py] X.env:=by rfl) (h2:starEach [.Name y py] X.env=[(false,eval (.Name y py) X.env)]:=by rfl) (hpl:(backTo pos (starEach [.Name y py] X.env)).any (·.1)=false:=by rfl) :
  PL X (.Call (.Name "isinstance" p) [a,.Name y py] [] pos) (JG (jf T) ta):=by
 have cr:gY X (.builtin "isinstance") (λxs H Q=>∃ x d,xs=[x,.ty T]/\Jx X.K H x d/\Q (.bl (je T d)) H):=by intro gV s σ H xs us Q I rv h;obtain⟨x,d,rfl,r,q⟩:=h;obtain⟨u,w,rfl,r1,r2⟩:=uz rv;cases r2;exact tE I r1 r (hT _ d) λtk=>⟨.bl _,H,I.tok _,rfl,q⟩
 refine PL.of (lR cr hg hm y_ (br (aC ha).pe (br (AM hy hmy hby (v:=.ty T) rfl hny hdy) fx h2) h1) (he:=h1) (hpl:=hpl)) λσ H Pr Z p4 E h=>?_
 refine⟨Pr,Z,λr Z1=>match r with
  |.d x=>jf T x λr=>p4 r Z1
  |_=>False,E,h,λv H' r Z' E' p=>?_⟩
 cases r with
 | d x =>
  obtain⟨_,e1,p1⟩:=E'.head_d;cases e1;exact⟨_,x,rfl,p1,_,Z',E'.tail.cons_d (.bl _),p⟩
 |_=>exact p.elim
end
section
variable{X:Cx}{e a b:Expr}{pos p apos cpos:Pos}{tb te:W L}{x:Str}
theorem ay.updOwn{K:PySem.W.Frag}{Pr H:Hp}{σ:St}{Z:Ev}{i:Nat}{l:Addr}{xs ys:List D}{vs:List V}(E:ay K Pr H σ Z)(q:Z[i]?=some (.own l xs))(r:bf K H vs ys):ay K Pr (IH H l (.lst vs)) σ (Z.set i (.own l ys)):=by obtain⟨sv,hs,rfl,_⟩:=E.slot q;have hi:i<Z.length:=(Mx.mp q).1;have E1:=(E.out q).write r;have E2:=E1.back (i:=i) (by simp[hi]) hs;rw[NU]at E2;exact E2
theorem ay.ownAt{K:PySem.W.Frag}{Pr H:Hp}{σ:St}{Z:Ev}{i:Nat}{l:Addr}{xs:List D}(E:ay K Pr H σ Z)(q:Z[i]?=some (.own l xs)):σ[i]?=some (some (.ref l))/\∃vs,H l=some (.lst vs)/\bf K H vs xs:=by obtain⟨sv,hs,rfl,r⟩:=E.slot q;exact⟨hs,r⟩
def qT(i:Nat)(Z:Ev)(k:Addr->List D->Prop):Prop:=match Z[i]? with
 |some (.own a xs)=>k a xs
 |_=>False
theorem fZ{i:Nat}{Z:Ev}{k:Addr->List D->Prop}(h:qT i Z k):∃a xs,Z[i]?=some (.own a xs)/\k a xs:=by
 unfold qT at h
 cases q:Z[i]? with
 |none=>rw[q]at h;exact h.elim
 | some l =>
  rw[q]at h
  cases l with
  |own a xs=>exact⟨a,xs,rfl,h⟩
  |un=>exact h.elim
  |d x=>exact h.elim
  |bx _ _=>exact h.elim
  |dic _ _=>exact h.elim
def FC(i:Nat)(te:W L):W L:=λZ p4=>qT i Z λ_ _=>te Z λr Z1=>JA r λy=>qT i Z1 λa xs=>xs.length<sizeLine/\p4 (.d .non) (Z1.set i (.own a (xs++[y])))
theorem p8(i:Nat)(he:PL X e te)(hN:X.N[i]?=some x:=by rfl)(hv:IP X.env.scope x:=by first | exact Or.inl rfl | exact Or.inr (Or.inl rfl) | exact Or.inr (Or.inr rfl)) (hd:(x == ("__debug__" : Str))=false:=by decide)
  (hcd:(x == ("__classdict__" : Str))=false:=by decide) (hs1:starEach [e] X.env=[(false,eval e X.env)]:=by rfl) (hbase:attributeBase (.Name x p) "append" X.env (eval (.Name x p) X.env)=eval (.Name x p) X.env:=by rfl)
  (hfew:((backTo cpos (starEach [e] X.env)).all (λx=>!x.1) && (backToKw cpos (keywordEach [] X.env)).all (λx=>x.1.isSome)
   && decide (([e]).length+([]:List Keyword).length+(if([]:List Keyword).isEmpty then 0 else 1)<30))=true:=by rfl)
  (hline:(apos.endLine == cpos.line)=true:=by rfl) (hplain:(backTo cpos (starEach ([]:List Expr) X.env)).any (·.1)=false:=by rfl) :
  PL X (.Call (.Attribute (.Name x p) "append" apos) [e] [] cpos) (FC i te):=by
 refine PL.of (A1 PySem.F.plainAttrs_list PySem.F.slot_list_append PySem.F.type_list_append pQ (cm hN hv hd hcd) (br (aC he).pe fx hs1) (hbase:=hbase) (hfew:=hfew) (hline:=hline) (hs:=hs1) (hplain:=hplain)) λσ H Pr Z p4 E h=>?_;obtain⟨l,xs0,q0,h⟩:=fZ h;obtain⟨hσ,vs0,hl0,_⟩:=E.ownAt q0
 refine⟨.ref l,hσ,.inl ⟨rfl,vs0,IW.of hl0⟩,Pr,Z,λr Z1=>match r with
  |.d y=>qT i Z1 λa xs=>xs.length<sizeLine/\p4 (.d .non) (Z1.set i (.own a (xs++[y])))
  |_=>False,E,h,λv H' r Z' E' pp=>?_⟩
 cases r with
 | d y =>
  obtain⟨l',xs,q,kz,pp⟩:=fZ pp;obtain⟨hσ',vs,hl,r⟩:=E'.tail.ownAt q;rw[hσ]at hσ';cases hσ';obtain⟨_,e1,p1⟩:=E'.head_d;cases e1;exact⟨l,vs,v,rfl,rfl,hl,by rw[r.length];exact kz,_,_,(E'.tail.updOwn q (r.append (.cons p1 .nil))).cons_d .non,pp⟩
 |_=>exact pp.elim
def vm(i:Nat)(tb:W L):W L:=λZ p4=>qT i Z λ_ _=>tb Z λr Z1=>kE r λj=>qT i Z1 λ_ xs=>∃y,Jo xs j=some y/\p4 (.d y) Z1
theorem iT(i:Nat)(hb:PL X b tb)(hs:rk b)(hN:X.N[i]?=some x:=by rfl)(hv:IP X.env.scope x:=by first | exact Or.inl rfl | exact Or.inr (Or.inl rfl) | exact Or.inr (Or.inr rfl)) (hd:(x == ("__debug__" : Str))=false:=by decide)
  (hcd:(x == ("__classdict__" : Str))=false:=by decide):PL X (.Subscript (.Name x p) b pos) (vm i tb):=by
 refine PL.of (FY vR (cm hN hv hd hcd) hb.pe hs) λσ H Pr Z p4 E h=>?_;obtain⟨l,xs0,q0,h⟩:=fZ h;obtain⟨hσ,vs0,hl0,_⟩:=E.ownAt q0;refine⟨.ref l,hσ,Pr,Z,_,E,h,λv H' r Z' E' pp=>?_⟩;obtain⟨j,rfl,pp⟩:=cW pp;obtain⟨l',xs,q,y,hy,pp⟩:=fZ pp;obtain⟨hσ',vs,hl,r⟩:=E'.tail.ownAt q;rw[hσ]at hσ';cases hσ';obtain⟨_,e1,p1⟩:=E'.head_d;cases e1;cases p1;obtain⟨w,hw,rw⟩:=rJ r hy;exact⟨l,vs,j,w,rfl,rfl,IW.of hl,hw,_,Z',E'.tail.cons_d rw,pp⟩
def yT(i:Nat):W L:=λZ p4=>qT i Z λ_ xs=>p4 (.d (.int xs.length)) Z
theorem wd(i:Nat) (hg:Gl X "len") (hm:X.mg "len"=none) (hN:X.N[i]?=some x:=by rfl) (hv:IP X.env.scope x:=by first | exact Or.inl rfl | exact Or.inr (Or.inl rfl) | exact Or.inr (Or.inr rfl)) (hd:(x == ("__debug__" : Str))=false:=by decide)
  (hcd:(x == ("__classdict__" : Str))=false:=by decide) (h1:starEach [.Name x p] X.env=[(false,eval (.Name x p) X.env)]:=by rfl) (hpl:(backTo pos (starEach ([]:List Expr) X.env)).any (·.1)=false:=by rfl) :
  PL X (.Call (.Name "len" apos) [.Name x p] [] pos) (yT i):=by
 refine PL.of (lR lb hg hm PySem.boot_len (br (cm hN hv hd hcd) fx h1) (he:=h1) (hpl:=hpl)) λσ H Pr Z p4 E h=>?_;obtain⟨l,xs0,q0,h⟩:=fZ h;obtain⟨hσ,vs0,hl0,r⟩:=E.ownAt q0;exact⟨.ref l,hσ,l,vs0,rfl,.inl (IW.of hl0),_,Z,E.cons_d (.int _),by rw[r.length];exact h⟩
def rK(i:Nat)(tb te:W L):W Fl:=λZ p4=>te Z λr Z1=>JA r λy=>qT i Z1 λ_ _=>tb Z1 λr Z2=>kE r λj=>qT i Z2 λa xs=>∃k,Jn xs.length j=some k/\p4 .nx (Z2.set i (.own a (xs.set k y)))
theorem mi(i:Nat){b:Expr}{ps:Pos}(hb:PL X b tb)(he:PL X e te)(hN:X.N[i]?=some x:=by rfl)(hv:IP X.env.scope x:=by first | exact Or.inl rfl | exact Or.inr (Or.inl rfl) | exact Or.inr (Or.inr rfl)) (hd:(x == ("__debug__" : Str))=false:=by decide)
  (hcd:(x == ("__classdict__" : Str))=false:=by decide)
  (ha:∀v,assign (.Subscript (.Name x p) b ps) X.env v=(do
   let ov <- holding [v] (eval (.Name x p) X.env)
   let iv <- holding [v,ov] (eval b X.env)
   standAt ps
   holding [v,ov,iv] (setItem ov iv v)
   release [v,ov,iv] []):=by intro _;rfl)
  (hs:swapsWithSole [.Subscript (.Name x p) b ps] e pos.line X.env=pure false:=by rfl) (hw:swappedStores [.Subscript (.Name x p) b ps] e X.env=pure none:=by rfl)
  (h1:(assignEach [.Subscript (.Name x p) b ps] X.env).map (·.2)=[assign (.Subscript (.Name x p) b ps) X.env]:=by rfl):PM X (.Assign [.Subscript (.Name x p) b ps] e pos) (rK i tb te):=by
 refine PM.of (Dc (aC he).pe (Da (cm hN hv hd hcd) hb.pe yx ha) hs hw h1) λσ H Pr Z p4 kz E h=>?_
 refine⟨Pr,Z,λr Z1=>match r with
  |.d y=>qT i Z1 λ_ _=>tb Z1 λr Z2=>kE r λj=>qT i Z2 λa xs=>∃k,Jn xs.length j=some k/\p4 .nx (Z2.set i (.own a (xs.set k y)))
  |_=>False,E,h,λv H' r Z' E' pp=>?_⟩
 cases r with
 | d y =>
  obtain⟨l,xs0,q0,pp⟩:=fZ pp;obtain⟨hσ,vs0,hl0,_⟩:=E'.tail.ownAt q0;refine⟨.ref l,hσ,a9 H' Z',Z',_,E'.tail.wide,pp,λw H2 r2 Z2 E2 pp=>?_⟩;obtain⟨j,rfl,pp⟩:=cW pp;obtain⟨l',xs,q,k,hk,pp⟩:=fZ pp;obtain⟨_,e1,p1⟩:=E2.head_d;cases e1;cases p1;have E3:ay X.K Pr H2 (some (.int j)::some v::σ) (.d (.int j)::.d y::Z2):=ay.step (τ:=[some v]) (lam:=[.d y]) (w:=[some (.int j)]) (μ:=[.d (.int j)]) E' rfl E2 rfl;obtain⟨_,e1,p1⟩:=E3.tail.head_d;cases e1;obtain⟨hσ',vs,hl,r⟩:=E3.tail.tail.ownAt q;rw[hσ]at hσ';cases hσ';refine⟨l,vs,j,k,rfl,rfl,hl,by rw[r.length];exact hk,_,E3.tail.tail.updOwn q (r.set p1 k),pp⟩
 |_=>exact pp.elim
def uM:Option (W L)->Ev->(Option Int->Ev->Prop)->Prop
 |none=>λZ k=>k none Z
 |some t=>λZ k=>t Z λr Z1=>kE r λi=>k (some i) Z1
noncomputable def vn{α:Type}(xs:List α)(lo hi:Option Int):List α:=(xs.drop (HT.sIx xs.length 0 lo)).take (HT.sIx xs.length xs.length hi-HT.sIx xs.length 0 lo)
end
noncomputable def bc:List Nat->Ev->Ev
 |[],Z=>Z
 |j::r,Z=>(bc r Z).set j .un
noncomputable def bZ(fi:List Nat)(Z:Ev):Ev:=fi.map λj=>(Z[j]?).getD .un
noncomputable def bJ(fi:List Nat)(σ:St):St:=fi.map λj=>(σ[j]?).getD none
noncomputable def eN:List Nat->Ev->Ev->Ev
 |j::r,c::cs,Z=>eN r cs (Z.set j c)
 |_,_,Z=>Z
theorem d5:∀(fi:List Nat)(Z:Ev),(bc fi Z).length=Z.length
 |[],_=>rfl
 |j::r,Z=>by unfold bc;rw[List.length_set,d5 r Z]
theorem p9:∀(fi:List Nat)(Z:Ev)(j:Nat),j∉fi->(bc fi Z)[j]?=Z[j]?
 |[],_,_,_=>rfl
 | i::r,Z,j,h=>by unfold bc;rw[Nz (λe=>h (by simp[e])),p9 r Z j λe=>h (so _ e)]
theorem tF:∀(fi:List Nat)(Z:Ev)(j:Nat),j∈fi->j<Z.length->(bc fi Z)[j]?=some .un
 | i::r,Z,j,h,hl=>by
  unfold bc;by_cases e:i=j
  . subst e;rw[Nj (by rw[d5];exact hl)]
  . rw[Nz e];exact tF r Z j ((MC.mp h).resolve_left λz=>e z.symm) hl
section
variable{K:PySem.W.Frag}{Pr H:Hp}{σ:St}{Z:Ev}
theorem ay.takeAt(E:ay K Pr H σ Z){i:Nat}{l:L}{s:Option V}(h:Z[i]?=some l)(hs:σ[i]?=some s):ay K Pr H (s::σ) (l::Z.set i .un):=E.outL h hs
theorem ay.takes(E:ay K Pr H σ Z):∀(fi:List Nat),fi.Nodup->(∀j∈fi,j<Z.length)->ay K Pr H (bJ fi σ++σ) (bZ fi Z++bc fi Z)
 |[],_,_=>E
 | j::r,nd,hl=>by
  have ih:=E.takes r (MQ.mp nd).2 λi hi=>hl i (so _ hi);have hj:j<Z.length:=hl j Mw;have hjs:j<σ.length:=by rw[E.len];exact hj
  have e1:(bZ r Z++bc r Z)[r.length+j]?=some Z[j]:=by rw[MW (by simp[bZ])];simp only[bZ,MD,Ng];rw[p9 r Z j (MQ.mp nd).1];exact MG hj
  have e2:(bJ r σ++σ)[r.length+j]?=some σ[j]:=by rw[MW (by simp[bJ])];simp only[bJ,MD,Ng];exact MG hjs
  have z:=ih.takeAt e1 e2;rw[List.set_append_right _ _ (by simp[bZ])]at z;simp only[bZ,MD,Ng]at z;have c1:bJ (j::r) σ=σ[j]::bJ r σ:=by simp[bJ,hjs]
  have c2:bZ (j::r) Z=Z[j]::bZ r Z:=by simp[bZ,hj]
  rw[c1,c2];exact z
theorem ay.backs:∀(fi:List Nat){cs Z:Ev},fi.Nodup->cs.length=fi.length->(∀j∈fi,Z[j]?=some .un)->(∀j∈fi,j<σ.length)->ay K Pr H (bJ fi σ++σ) (cs++Z)->ay K Pr H σ (eN fi cs Z)
 |[],[],Z,_,_,_,_,E=>E
 | j::r,c::cs,Z,nd,hl,hu,hs,E=>by
  have hjs:j<σ.length:=hs j Mw;have hj:=hu j Mw;have c1:bJ (j::r) σ=σ[j]::bJ r σ:=by simp[bJ,hjs]
  rw[c1]at E;have hlr:cs.length=r.length:=by simpa using hl
  have z:=ay.back (σ:=bJ r σ++σ) (Z:=cs++Z) (l:=c) E (i:=r.length+j) (by
   rw[MW xL,hlr,Ng];exact hj) (by
   rw[MW (by simp[bJ])];simp only[bJ,MD,Ng]
   exact MG hjs)
  rw[List.set_append_right _ _ xL,hlr,Ng]at z
  exact ay.backs r (MQ.mp nd).2 hlr (λi hi=>by
   rw[Nz (λe=>(MQ.mp nd).1 (by rw[e];exact hi))];exact hu i (so _ hi)) (λi hi=>hs i (so _ hi)) z
 |[],_::_,_,_,hl,_,_,_=>by simp at hl
 |_::_,[],_,_,hl,_,_,_=>by simp at hl
end
noncomputable def qa(cells:List (Str×Addr)):List (Str×NameKind)->List (Str×Addr)->List (Str×Addr)
 |[],acc=>acc
 |(n,k)::r,acc=>qa cells r (if k == .free then(match cells.lookup n with|some c=>(n,c)::acc|none=>acc)else acc)
theorem kH{env:Env}:∀(names:List (Str×NameKind))(acc:List (Str×Addr)),(∀x∈names,x.2=.free->∃c,env.cells.lookup x.1=some c) ->
  (forIn names acc λ(x:Str×NameKind) (cs:List (Str×Addr))=>(if x.2 == .free then do let c <- cellOf env x.1;pure (ForInStep.yield ((x.1,c)::cs))else pure (ForInStep.yield cs):Sem (ForInStep (List (Str×Addr)))))=pure (qa env.cells names acc)
 |[],acc,_=>rfl
 | (n,k)::r,acc,h=>by
  rw[List.forIn_cons];by_cases hk:(k == NameKind.free)=true
  .
   obtain⟨c,hc⟩:=h (n,k) Mw (by simpa using hk);have e:cellOf env n=pure c:=by unfold cellOf;rw[show env.cells.lookup n=some c from hc]
   simp only[hk,if_true,e,pure_bind,qa,hc];exact kH r _ λx hx=>h x (so _ hx)
  . simp only[hk,qa,if_false,pure_bind];exact kH r _ λx hx=>h x (so _ hx)
theorem jJ{scope:Scope}{env:Env}(h:∀x∈scope.names,x.2=.free->∃c,env.cells.lookup x.1=some c):closureFor scope env=pure (qa env.cells scope.names []):=by have:=kH (env:=env) scope.names [] h;unfold closureFor;simp only[bind_pure_comp]at this ⊢;rw[this];rfl
theorem tG{cells:List (Str×Addr)}:∀(names:List (Str×NameKind))(acc:List (Str×Addr)),(∀x c,acc.lookup x=some c->cells.lookup x=some c)->∀x c,(qa cells names acc).lookup x=some c->cells.lookup x=some c
 |[],acc,h,x,c,e=>h x c e
 | (n,k)::r,acc,h,x,c,e=>by
  unfold qa at e;refine tG r _ (λy d ey=>?_) x c e;split at ey
  .
   split at ey
   .
    rename_i q;rw[MU]at ey;split at ey
    .
     rename_i e2;have:y=n:=by simpa using e2
     cases ey;rw[this];exact q
    . exact h y d ey
   . exact h y d ey
  . exact h y d ey
theorem lB{n:Str}{c:Addr}{acc:List (Str×Addr)}{x:Str}(h:∃d,acc.lookup x=some d):∃d,((n,c)::acc).lookup x=some d:=by
 rw[MU];split
 . exact⟨_,rfl⟩
 . exact h
theorem oR{cells:List (Str×Addr)}:∀(names:List (Str×NameKind))(acc:List (Str×Addr))(x:Str),((∃d,acc.lookup x=some d)∨((x,NameKind.free)∈names/\∃c,cells.lookup x=some c))->∃d,(qa cells names acc).lookup x=some d
 | [],acc,x,h=>by
  rcases h with h|⟨h,_⟩
  . exact h
  . simp at h
 | (n,k)::r,acc,x,h=>by
  unfold qa;refine oR r _ x ?_;rcases h with h|⟨hm,c,hc⟩
  .
   left;split
   .
    split
    . exact lB h
    . exact h
   . exact h
  .
   rcases MC.mp hm with e|hm
   . cases e;left;simp only[hc,beq_self_eq_true,if_true];exact⟨c,by simp[MU]⟩
   . exact .inr ⟨hm,c,hc⟩
noncomputable def jK(X:Cx)(scope:Scope)(cl:List (Str×Addr))(Nb:List Str)(s₀:Shared)(H₀:Hp)(fp:List Addr):Cx :=
 {X with N:=Nb,s₀:=s₀,H₀:=H₀,env:=compEnvC scope cl s₀.heap.objs.size X.env,outer:=X.stack,stack:=X.stack,ex:=fp,fn:=λ_=>false,pn:=[],xe:=λ_ _=>False}
theorem iF{α β:Type}{F:α->β->Prop}:∀{a:List α}{b:List β},Paired F a b↔a.length=b.length/\∀p∈a.zip b,F p.1 p.2
 |[],[]=>⟨λ_=>⟨rfl,λ_ h=>by simp at h⟩,λ_=>.nil⟩
 |[],_::_=>⟨(λh=>nomatch h),λh=>by simp at h⟩
 |_::_,[]=>⟨(λh=>nomatch h),λh=>by simp at h⟩
 | x::a,y::b=>by
  constructor
  .
   intro h
   cases h with
   | cons r t =>
    obtain⟨h1,h2⟩:=iF.mp t
    exact⟨by simp[h1],λp hp=>by
     rw[NJ]at hp;rcases MC.mp hp with rfl|hp
     . exact r
     .
      exact h2 p hp⟩
  . rintro⟨hl,h⟩;exact .cons (h (x,y) v6) (iF.mpr ⟨by simpa using hl,λp hp=>h p (by rw[NJ];exact so _ hp)⟩)
theorem oS:∀{σ:St}{Z:Ev},σ.length=Z.length->(σ.zip Z).map (·.2)=Z
 |[],[],_=>rfl
 | _::σ,l::Z,h=>by have ih:=oS (σ:=σ) (Z:=Z) (by simpa using h);rw[NJ,MN,ih]
 |[],_::_,h=>by simp at h
 |_::_,[],h=>by simp at h
theorem ay.rearr{K:PySem.W.Frag}{Pr H:Hp}{σ σ2:St}{Z Z2:Ev}(E:ay K Pr H σ Z)(hl:σ2.length=Z2.length)(extra:List (Option V×L))(h:(σ.zip Z).Perm (σ2.zip Z2++extra)):ay K Pr H σ2 Z2:=by
 have pm:(owns Z).Perm (owns Z2++owns (extra.map (·.2))):=by have q:=jG (h.map (·.2));rw[List.map_append,oS E.len,oS hl,aE]at q;exact q
 refine⟨E.sub,(MX.mp (pm.nodup_iff.mp E.nd)).1,λa ha=>E.off a (pm.mem_iff.mpr (MJ _ ha)),iF.mpr ⟨hl,λp hp=>?_⟩⟩;exact(iF.mp E.sl).2 p (h.mem_iff.mpr (MJ _ hp))
theorem qc{fi:List Nat}{σ τ:St}(h:∀j∈fi,j<σ.length):bJ fi (σ++τ)=bJ fi σ:=by unfold bJ;refine List.map_congr_left λj hj=>?_;rw[Nh (h j hj)]
theorem uN{fi:List Nat}{σ τ:Ev}(h:∀j∈fi,j<σ.length):bZ fi (σ++τ)=bZ fi σ:=by unfold bZ;refine List.map_congr_left λj hj=>?_;rw[Nh (h j hj)]
theorem qe{τ:Ev}:∀{fi:List Nat}{Z:Ev},(∀j∈fi,j<Z.length)->bc fi (Z++τ)=bc fi Z++τ
 |[],_,_=>rfl
 | j::r,Z,h=>by unfold bc;rw[qe λi hi=>h i (so _ hi),List.set_append_left _ _ (by rw[d5];exact h j Mw)]
theorem nN{τ:Ev}:∀{fi:List Nat}{cs Z:Ev},(∀j∈fi,j<Z.length)->eN fi cs (Z++τ)=eN fi cs Z++τ
 |[],[],_,_=>rfl
 |[],_::_,_,_=>rfl
 |_::_,[],_,_=>rfl
 | j::r,c::cs,Z,h=>by unfold eN;rw[List.set_append_left _ _ (h j Mw)];exact nN λi hi=>by rw[List.length_set];exact h i (so _ hi)
theorem d6{env:Env}:∀{names:List (Str×NameKind)}{x:Str},names.lookup x=some .free ->
  (names.map λ(n,k)=>if(k == NameKind.free && env.scope.kind == .function && env.kindOf n == some .cell)then(n,NameKind.cell)else(n,k)).lookup x=some .cell ∨
  (names.map λ(n,k)=>if(k == NameKind.free && env.scope.kind == .function && env.kindOf n == some .cell)then(n,NameKind.cell)else(n,k)).lookup x=some .free
 |[],_,h=>by simp at h
 | (n,k)::r,x,h=>by
  have ih:=@d6 env r x;rw[MN]
  cases hx:x == n with
  | true =>
   simp only[MU,hx]at h;cases h;dsimp only;by_cases hc:(NameKind.free == NameKind.free && env.scope.kind == .function && env.kindOf n == some .cell)=true
   . left;rw[if_pos hc];simp[MU,hx]
   . right;rw[if_neg hc];simp[MU,hx]
  | false =>
   simp only[MU,hx]at h;dsimp only;by_cases hc:(k == NameKind.free && env.scope.kind == .function && env.kindOf n == some .cell)=true
   . rw[if_pos hc];simp only[MU,hx];exact ih h
   . rw[if_neg hc];simp only[MU,hx];exact ih h
theorem gb{env:Env}:∀{names:List (Str×NameKind)}{x:Str}{k:NameKind},(∀y∈names,y.2≠.cell)->(k=.cell∨k=.free) ->
  (names.map λ(n,k)=>if(k == NameKind.free && env.scope.kind == .function && env.kindOf n == some .cell)then(n,NameKind.cell)else(n,k)).lookup x=some k->(x,NameKind.free)∈names
 |[],_,_,_,_,h=>by simp at h
 | (n,k0)::r,x,k,hc,hk,h=>by
  rw[MN]at h;dsimp only at h;by_cases q:(k0 == NameKind.free && env.scope.kind == .function && env.kindOf n == some .cell)=true
  .
   rw[if_pos q,MU]at h;have e0:k0=.free:=by have:=(NM.mp (NM.mp q).1).1;simpa using this
   split at h
   .
    rename_i e;have:x=n:=by simpa using e
    subst this e0;exact Mw
   . exact so _ (gb (λy hy=>hc y (so _ hy)) hk h)
  .
   rw[if_neg q,MU]at h;split at h
   .
    rename_i e;have:x=n:=by simpa using e
    subst this;have e1:k0=k:=by simpa using h
    subst e1;rcases hk with z|z
    . exact absurd z (hc (x,k0) Mw)
    . subst z;exact Mw
   . exact so _ (gb (λy hy=>hc y (so _ hy)) hk h)
section
variable{prog:Program}{w:World}{A:Around}{R:Result->Shared->Prop}
theorem we{elt target iter:Expr}{ifs:List Expr}{scope:Scope}{pos:Pos}{it acc:Value}{env:Env}(I:Nat->Shared->Prop)
  (turn:∀n s,I n s->wpAny (model prog w) A (pyNext it) (λr s₁=>match r with
   |none=>R (.ok .next) s₁
   | some v=>wpAny (model prog w) A (letOwnedTupleGo target it v) (λ_ s₀=>wpAny (model prog w) A (assign target env v) (λ_ s₂ =>
     wpAny (model prog w) A (forIn ifs true λc r=>if r=true then do let ok <- isTrue c env (eval c env);pure (ForInStep.yield ok)else pure (ForInStep.yield r)) (λok s₃ =>
      if ok=true then wpAny (model prog w) A (eval elt env) (λx s₄ =>
       wpAny (model prog w) A (call (.builtin "list.append") [acc,x]) (λ_ s₅=>∃ m,m < n/\I m s₅) (λ_ _=>False) s₄) (λ_ _=>False) s₃
      else ∃m,m<n/\I m s₃) (λ_ _=>False) s₂) (λ_ _=>False) s₀) (λ_ _=>False) s₁) (λ_ _=>False) s)
  (n:Nat) {s:Shared} (h:I n s) :
  codeAny (model prog w) A (.compLoop (.ListComp elt [⟨target,iter,ifs,0⟩] scope pos) 0 it acc env) R s:=by
 refine codeAny_loop rfl I (λn s hI=>?_) n h
 show wpAny _ A ((compTurn (.ListComp elt [⟨target,iter,ifs,0⟩] scope pos) 0 it acc env).onRaise (λx=>do noteFrame x env;theTreesLotGoes x)) _ _ s
 refine wpAny_noted ?_;rw[compTurn_list];have fe:∀{α:Type}{t:Sem α}{Q:α->Shared->Prop}{E:Value->Shared->Prop}{s:Shared},wpAny (model prog w) A t Q (λ_ _=>False) s->wpAny (model prog w) A t Q E s:=λh=>Np h (λ_ _ q=>q) λ_ _ z=>z.elim;refine kS (wpAny_standAt (kS (Np (turn n s hI) (λr s₁ h₁=>?_) λ_ _ h'=>h'.elim)))
 cases r with
 |none=>exact MB h₁
 | some v =>
  refine kS (Np h₁ (λ_ s₀ h₀=>?_) λ_ _ z=>z.elim);refine kS (Np h₀ (λ_ s₂ h₂=>kS (Np h₂ (λok s₃ h₃=>?_) λ_ _ h'=>h'.elim)) λ_ _ h'=>h'.elim)
  cases ok with
  |false=>exact MB ⟨rfl,h₃⟩
  | true =>
   exact kS (kS (Np h₃ (λx s₄ h₄=>kS (Np h₄ (λ_ s₅ h₅=>MB (MB ⟨rfl,h₅⟩)) λ_ _ h'=>h'.elim)) λ_ _ h'=>h'.elim))
end
def JR(X:Cx)(tg:Expr)(n:Nat)(g:Tg):Prop:=∃gg:TG,PG X tg gg/\∀v σ H Pr Z x k,σ.length=X.N.length->ay X.K Pr H σ Z->Jx X.K H v x->g x Z k->gg v σ H λσ' H'=>H'=H/\σ'.drop n=σ.drop n/\∃Z',ay X.K Pr H σ' Z'/\k Z'
theorem mj{X:Cx}{i n:Nat}{x:Str}{pos:Pos}(hn:i<n)(hN:X.N.Nodup)(hi:X.N[i]?=some x)(hx:IQ X.env.scope x)(hf:X.fn x=true∨X.env.scope.names.lookup x=some .local:=by first|exact .inl rfl|exact .inr rfl|assumption):JR X (.Name x pos) n (cw i) :=
 ⟨_,rh hN hi hx hf,λv σ H Pr Z x k hl E r h=>⟨rfl,by rw[List.drop_set_of_lt hn],_,(E.cons_d r).store (by rw[hl];exact(Mx.mp hi).1),h⟩⟩
def JS(X:Cx)(ifs:List Expr)(t:W Bool):Prop :=
 ∀(gV:List (Addr×Obj))(s:Shared)(σ:St)(H Pr:Hp)(Z:Ev)(p4:Bool->Ev->Prop),IR X gV σ H s->ay X.K Pr H σ Z->t Z p4 ->
  wpAny (model X.prog X.w) X.A (forIn ifs true λc r=>if r=true then do let ok <- isTrue c X.env (eval c X.env);pure (ForInStep.yield ok)else pure (ForInStep.yield r)) (EB X gV σ Pr p4) X.xe s
def ng:W Bool:=λZ p4=>p4 true Z
theorem mn{X:Cx}:JS X [] ng:=λgV s σ H Pr Z p4 I E h=>wpAny_tests_nil ⟨H,Z,I,E,h⟩
def g6(g:Tg)(ti:W Bool)(te:W L):List D->Ev->List D->(List D->Ev->Prop)->Prop
 |[],Z,acc,k=>k acc Z
 |x::xs,Z,acc,k=>g x Z λZ1=>ti Z1 λb Z2=>if b=true then te Z2 λr Z3=>JA r λy=>g6 g ti te xs Z3 (acc++[y]) k else g6 g ti te xs Z2 acc k
def qf(n:Nat)(fi:List Nat)(src:W (List D))(g:Tg)(ti:W Bool)(te:W L):W L:=λZ p4=>src Z λxs Z1=>xs.length<=sizeLine /\
 g6 g ti te xs (List.replicate n .un++bZ fi Z1) [] λys ρb=>∀a,p4 (.own a ys) (eN fi (ρb.drop n) (bc fi Z1))
section
variable{X:Cx}
theorem wg{elt tg iter:Expr}{ifs:List Expr}{scope sc:Scope}{pos:Pos}{N Nt Nf:List Str}{fi:List Nat}{src:W (List D)}{g:Tg}{ti:W Bool}{te:W L}
  (hsc:X.env.scope=sc) (hXN:X.N=N) (hc:X.calm=true) (hi:JL X tg iter src)
  (hkind:scope.kind=.function) (hnames:∀x∈scope.names,x.2=.local->scope.names.lookup x.1=some .local) (hcell:∀y∈scope.names,y.2≠.cell)
  (hfr:∀x∈scope.names,x.2=.free->sc.names.lookup x.1=some .cell∨sc.names.lookup x.1=some .free)
  (hnd:fi.Nodup) (hNf:Nf.map some=fi.map (λj=>N[j]?)) (hNk:∀x∈Nf,scope.names.lookup x=some .free) (hfl:∀j∈fi,j<N.length)
  (hg:∀cl s₀ H₀ fp,JR (jK X scope cl (Nt++Nf) s₀ H₀ fp) tg Nt.length g) (hti:∀cl s₀ H₀ fp,JS (jK X scope cl (Nt++Nf) s₀ H₀ fp) ifs ti) (hte:∀cl s₀ H₀ fp,PL (jK X scope cl (Nt++Nf) s₀ H₀ fp) elt te)
  {gV:List (Addr×Obj)} {s:Shared} {σ:St} {H Pr:Hp} {Z:Ev} {p4:L->Ev->Prop} {use:Option (Value->Sem Unit)} {Q:Value->Shared->Prop} (I:IR X gV σ H s) (E:ay X.K Pr H σ Z) (h:qf Nt.length fi src g ti te Z p4)
  (hRR:∀D C s7 H6 acc Z'' m,IR X gV σ H6 s7->s7.heap.Ns C m->H6 C=none->C≠X.env.locals->X.s₀.heap.objs.size<=C->(∀x c,X.env.cells.lookup x=some c->c≠C)->(∀p∈X.pn++gV,p.1≠C)->ay X.K Pr H6 (some (.ref D)::σ) (.own D acc::Z'')->p4 (.own D acc) Z'' ->
   compPost (model X.prog X.w) X.A X.xe use Q (.ref D) C (.ok .next) s7)
  (hs:∀x,foldedSetIterable iter X.env x=pure x):wpAny (model X.prog X.w) X.A (comprehension (.ListComp elt [⟨tg,iter,ifs,0⟩] scope pos) scope X.env (firstIterPos [⟨tg,iter,ifs,0⟩] pos) (newList []) false (eval iter X.env) use) Q X.xe s:=by
 have hcells:∀x∈scope.names,x.2=.free->∃c,X.env.cells.lookup x.1=some c:=λx hx hk=>I.ok.has x.1 (by
  show X.env.scope.names.lookup x.1=_∨X.env.scope.names.lookup x.1=_
  rw[hsc];exact hfr x hx hk)
 have hsub:=tG (cells:=X.env.cells) scope.names [] (λx c e=>by simp at e);refine wpAny_comprehension_free (use:=use) rfl hs (jJ hcells) hkind hnames (IT (hi gV s σ H Pr Z _ I E h) λv s1 h1=>IT h1 λitv s2 h2=>?_);obtain⟨it,fp,tn,J,H2,xs,Z2,e,I2,T,st2,f2,E2,G,kz,w0⟩:=h2;subst e;refine NX (T:="list") ?_;generalize hD:s2.heap.objs.size=D;have fD:H2 D=none:=by rw[<- hD];exact I2.fresh
 have I3:IR X gV σ (IH H2 D (.lst [])) {s2 with heap:=s2.heap.push {cls:=.type "list",dict:=none,data:=.seq ([]:List Value).toArray} }:=by have:=IR.lnew (ys:=[]) (its:=[]) (t':=s2.toks) I2 .nil (NW _);rw[hD]at this;exact this
 have E3:=E2.cons_own (p:=D) (vs:=[]) (xs:=[]) fD .nil;have sz3:(s2.heap.push {cls:=.type "list",dict:=none,data:=.seq ([]:List Value).toArray}).objs.size=D+1:=by rw[Heap.size_push,hD]
 generalize hs3:({s2 with heap:=s2.heap.push {cls:=.type "list",dict:=none,data:=.seq ([]:List Value).toArray} }:Shared)=s3 at I3;have hs3h:s3.heap=s2.heap.push {cls:=.type "list",dict:=none,data:=.seq ([]:List Value).toArray}:=by rw[<- hs3]
 have fpD:∀b∈fp,b≠D:=λb hb=>by obtain⟨o,e,_⟩:=T.obj 0 _ st2 b hb;rw[<- hD];exact MO (MA e)
 have old3:∀b o,s2.heap.get? b=some o->s3.heap.get? b=some o:=λb o e=>by rw[hs3h];exact tu _ e
 refine wpAny_newFunctionEnv (around:=some X.env) hcell (by intro y hy;simp at hy) (λh4 hns4 hsb4=>?_) hkind
 have hns4':h4.Ns s3.heap.objs.size (λ_=>none):=by
  have:(λx=>(([]:List (Str×Value)).reverse.lookup x))=λ_=>(none:Option Value):=by funext x;rfl
  rw[this]at hns4;exact hns4
 have old4:∀b o,s3.heap.get? b=some o->h4.get? b=some o:=λb o e=>by rw[hsb4.2 b (MO (MA e))];exact tu _ e
 have hσl:σ.length=N.length:=by rw[<- hXN];exact I.len
 have hρ2:σ.length=Z2.length:=E2.len;have hjσ:∀j∈fi,j<σ.length:=λj hj=>by rw[hσl];exact hfl j hj
 have hjρ:∀j∈fi,j<Z2.length:=λj hj=>by rw[<- hρ2];exact hjσ j hj
 have hfpl:∀b∈fp,b<s3.heap.objs.size:=λb hb=>by obtain⟨o,e,_⟩:=T.obj 0 _ st2 b hb;exact MA (old3 b o e)
 have hlNf:Nf.length=fi.length:=by have:=Os List.length hNf;simpa using this
 have Bok:(jK X scope (qa X.env.cells scope.names []) (Nt++Nf) s3 (IH H2 D (.lst [])) fp).Ok:=by
  refine⟨I3.ok.mod,hkind,I.ok.glob,I.ok.blt,ME _,λx y c e1 e2=>I.ok.inj x y c (hsub x c e1) (hsub y c e2),λx hx=>?_,λx c hf _=>(M6 hf).elim,I.ok.hd,I.ok.frames,.inl rfl,λb hb=>⟨MO (hfpl b hb),λx c e=>(f2 b hb).2.2.2.2.1 x c (hsub x c e)⟩,I3.bs,MH I.ok.bsz I3.sz,λb o e hb=>?_,λb hb hm=>?_,I3.stack,I3.stkFree,I3.tbs⟩
  .
   have hm:(x,NameKind.free)∈scope.names:=by
    rcases hx with hx|hx
    . exact gb (env:=X.env) hcell (.inl rfl) hx
    . exact gb (env:=X.env) hcell (.inr rfl) hx
   exact oR scope.names [] x (.inr ⟨hm,hcells _ hm rfl⟩)
  .
   rcases(f2 b hb).2.2.2.1 with z|z
   . exact I.ok.noex b o e z
   . exact absurd (Mz (MA (I.ok.bs b o e).1) z) (Oe _)
  .
   rcases MC.mp (I3.stkSub b hm)with z|z
   . exact(f2 b hb).2.1 z
   . exact(f2 b hb).2.2.1 z
 have I4:IR (jK X scope (qa X.env.cells scope.names []) (Nt++Nf) s3 (IH H2 D (.lst [])) fp) [] (List.replicate Nt.length none++bJ fi σ) (IH H2 D (.lst [])) {s3 with heap:=h4,toks:=s3.toks+([]:List (Str×Value)).length}:=by
  refine⟨Bok,rfl,I3.bare,Un.kept old4,⟨_,hns4',λi x v e1 e2 e3=>?_⟩,λx c e=>?_,I3.fresh,λx c e=>(I3.freeC x c (hsub x c e)).imp id λz=>⟨rfl,z.2⟩,λp hp=>absurd (show p∈([]:List (Addr×Obj))from hp) v6,I3.hok.kept old4,?_⟩
  .
   have e1:(Nt++Nf)[i]?=some x:=e1
   have hi':Nt.length<=i:=by
    by_cases q:i<Nt.length
    . rw[Nh (by simpa using q),List.getElem?_replicate]at e2;split at e2<;>cases e2
    . omega
   rw[MW hi']at e1;rw[MW (by simpa using hi')]at e2;simp only[NP]at e2;generalize i-Nt.length=k at e1 e2;have hk:k<fi.length:=by have:=(Mx.mp e1).1;omega
   have e4:(Nf.map some)[k]?=(fi.map λj=>N[j]?)[k]?:=by rw[hNf]
   rw[Nc,Nc,e1,MG hk]at e4;have e5:N[fi[k]]?=some x:=by simpa using e4.symm
   have e6:σ[fi[k]]?=some (some v):=by unfold bJ at e2;rw[Nc,MG hk]at e2;have hjl:=hjσ fi[k] (Oh hk);rw[MG hjl];simpa[MG hjl]using e2
   have hxm:x∈Nf:=List.mem_of_getElem? e1;have hfree:=hNk x hxm;have hmem:(x,NameKind.free)∈scope.names:=NG hfree;have hkx:=hfr _ hmem rfl;obtain⟨m,_,hl⟩:=I3.loc;obtain⟨u,ru,lk⟩:=hl fi[k] x v (by rw[hXN];exact e5) e6 (by rw[hsc];exact .inr hkx);refine⟨u,ru,.inr ⟨d6 (env:=X.env) hfree,?_⟩⟩;rcases lk with⟨z,_⟩|⟨_,c,hc1,hc2⟩
   .
    have z:X.env.scope.names.lookup x=some .local:=z;rw[hsc]at z;rcases hkx with q|q
    . rw[z]at q;cases q
    . rw[z]at q;cases q
   .
    obtain⟨d,hd⟩:=oR (cells:=X.env.cells) scope.names [] x (.inr ⟨hmem,c,hc1⟩);have:d=c:=by have:=hsub x d hd;rw[hc1]at this;exact(MZ this).symm
    subst this;obtain⟨o,ho,hdd⟩:=hc2;exact⟨d,hd,o,old4 _ o ho,hdd⟩
  . obtain⟨v,o,ho,hd⟩:=I3.cell x c (hsub x c e);exact⟨v,o,old4 c o ho,hd⟩
  . show(List.replicate Nt.length none++bJ fi σ).length=(Nt++Nf).length;simp[bJ,hlNf]
 have E4:ay X.K Pr (IH H2 D (.lst [])) (some (.ref D)::(σ++(List.replicate Nt.length none++bJ fi σ))) (.own D []::(bc fi Z2++(List.replicate Nt.length .un++bZ fi Z2))):=by
  have a1:ay X.K Pr (IH H2 D (.lst [])) (σ++[some (.ref D)]) (Z2++[.own D []]):=E3.rearr (by simp[hρ2]) [] (by
   rw[M9,NA hρ2]
   exact(Nl (l₁:=[(some (V.ref D),L.own D [])]) (l₂:=σ.zip Z2)))
  have a2:=a1.takes fi hnd λj hj=>by have:=hjρ j hj;simp;omega
  rw[qc hjσ,uN hjρ,qe hjρ]at a2;have a3:=a2.uns Nt.length;have hcl:(bJ fi σ).length=(bZ fi Z2).length:=by simp[bJ,bZ]
  have hul:σ.length=(bc fi Z2).length:=by rw[d5];exact hρ2
  refine a3.rearr (by simp[hul,hcl]) [] ?_;have l1:(bJ fi σ++(σ++[some (V.ref D)])++List.replicate Nt.length none).zip (bZ fi Z2++(bc fi Z2++[L.own D []])++List.replicate Nt.length L.un)=((bJ fi σ).zip (bZ fi Z2)++(σ.zip (bc fi Z2)++[(some (V.ref D),L.own D [])]))++(List.replicate Nt.length none).zip (List.replicate Nt.length L.un):=by rw[NA (by simp only[MK,hcl,hul];rfl),NA hcl,NA hul];rfl
  have l2:(some (V.ref D)::(σ++(List.replicate Nt.length none++bJ fi σ))).zip (L.own D []::(bc fi Z2++(List.replicate Nt.length L.un++bZ fi Z2)))=(some (V.ref D),L.own D [])::(σ.zip (bc fi Z2)++((List.replicate Nt.length none).zip (List.replicate Nt.length L.un)++(bJ fi σ).zip (bZ fi Z2))):=by rw[NJ,NA hul,NA v6]
  rw[M9,l1,l2];generalize (bJ fi σ).zip (bZ fi Z2)=z1;generalize σ.zip (bc fi Z2)=z2;generalize (List.replicate Nt.length none).zip (List.replicate Nt.length L.un)=z3;show(z1++(z2++[(some (V.ref D),L.own D [])])++z3).Perm ((some (V.ref D),L.own D [])::(z2++(z3++z1)));have p1:(z1++(z2++[(some (V.ref D),L.own D [])])++z3).Perm ((z2++[(some (V.ref D),L.own D [])])++z3++z1):=by rw[MV];exact Nl
  refine p1.trans ?_;rw[MV,MV];exact List.perm_middle
 clear E3
 let B:Cx:=jK X scope (qa X.env.cells scope.names []) (Nt++Nf) s3 (IH H2 D (.lst [])) fp
 have hul:σ.length=(bc fi Z2).length:=by rw[d5];exact hρ2
 have stat:∀{H':Hp},(∀b∈fp,H' b=none)->∀b∈fp,yh B [] H' b:=λhn b hb=>by
  refine⟨hn b hb,MO (hfpl b hb),λhm=>?_,.inl hb,λx c e=>(f2 b hb).2.2.2.2.1 x c (hsub x c e),λp hp=>absurd (show p∈([]:List (Addr×Obj))from hp) v6⟩;rcases MC.mp (I3.stkSub b hm)with z|z
  . exact(f2 b hb).2.1 z
  . exact(f2 b hb).2.2.1 z
 have loop:∀s5:Shared,s5={s3 with heap:=h4,toks:=s3.toks+([]:List (Str×Value)).length}->codeAny (model X.prog X.w) X.A (.compLoop (.ListComp elt [⟨tg,iter,ifs,0⟩] scope pos) 0 (.ref it) (.ref D) B.env)
   (compPost (model X.prog X.w) X.A X.xe use Q (.ref D) s3.heap.objs.size) s5:=by
  rintro s5 rfl
  refine we (λn s'=>∃i σ' H' Z' acc,n+i=xs.length/\IR B [] σ' H' s'/\tn i s'.heap/\(∀b∈fp,H' b=none)/\σ'.drop Nt.length=bJ fi σ/\ay X.K Pr H' (some (.ref D)::(σ++σ')) (.own D acc::(bc fi Z2++Z'))/\acc.length<=i /\
   g6 g ti te (xs.drop i) Z' acc λys ρb=>∀a,p4 (.own a ys) (eN fi (ρb.drop Nt.length) (bc fi Z2))) ?_ xs.length
   ⟨0,_,_,_,[],xL,I4,T.keep 0 _ _ st2 λb hb o e=>old4 b o (old3 b o e),λb hb=>by rw[ar (fpD b hb)];exact(f2 b hb).1,v6,E4,ME _,by simpa using w0⟩
  rintro n s6 ⟨i,σ6,H6,Z6,acc,hn,I6,st6,fr6,dr6,E6,hal,w6⟩
  have pr:m8 H2 H6:=λb o p e=>by
   have ne:b≠D:=λz=>by rw[z,fD]at e;cases e
   have e':B.H₀ b=some o:=by show IH H2 D (.lst []) b=some o;rw[ar ne];exact e
   cases o with
   |tup ys=>exact I6.base.tups b ys e'
   |frz ob u=>exact I6.base.frzs b ob u e'
   |tbl t=>exact I6.base.tbls b t e'
   |_=>exact p.elim
  obtain⟨go,stop⟩:=G H6 pr;have hτ:(some (V.ref D)::σ).length=(L.own D acc::bc fi Z2).length:=by simp[hul]
  by_cases hlt:i<xs.length
  .
   obtain⟨hgo,hy⟩:=go i xs[i] (MG hlt);rw[List.drop_eq_getElem_cons hlt]at w6;refine IT (T.item B rfl rfl rfl hc i [] s6 σ6 H6 (λ_ _=>False) I6 (stat fr6) st6 hgo) λr s7 ⟨u,hr,h7⟩=>?_;subst hr;refine IT h7 λ_ s8 ⟨x,H8,I8,r8,y8,st8,fr8⟩=>?_;obtain⟨gr,rx⟩:=hy x H8 y8;have I8':=I8.pinned (stat fr8) (T.obj _ _ st8);have E8:=E6.grown gr;have E8a:ay X.K (a9 H8 Z6) H8 σ6 Z6:=(ay.drop (τ:=some (V.ref D)::σ) (lam:=L.own D acc::bc fi Z2) E8 hτ).wide;obtain⟨gg,hgg,hgs⟩:=hg (qa X.env.cells scope.names []) s3 (IH H2 D (.lst [])) fp;refine IT (hgg _ s8 σ6 H8 x u _ I8' r8 (hgs x σ6 H8 _ Z6 xs[i] _ I8.len E8a rx w6)) λ_ s9 ⟨σ9,H9,I9,e9,dr9,Z9,E9,q9⟩=>?_;subst e9;have F9:ay X.K Pr H9 (some (V.ref D)::(σ++σ9)) (L.own D acc::(bc fi Z2++Z9)):=ay.step (τ:=some (V.ref D)::σ) (lam:=L.own D acc::bc fi Z2) (w:=[]) (μ:=[]) E8 hτ E9 rfl;have F9a:ay X.K (a9 H9 Z9) H9 σ9 Z9:=(ay.drop (τ:=some (V.ref D)::σ) (lam:=L.own D acc::bc fi Z2) F9 hτ).wide;refine IT (hti _ _ _ _ _ s9 σ9 H9 _ Z9 _ I9 F9a q9) λok sA ⟨HA,ρA,IA,EA,qA⟩=>?_;have FA:ay X.K Pr HA (some (V.ref D)::(σ++σ9)) (L.own D acc::(bc fi Z2++ρA)):=ay.step (τ:=some (V.ref D)::σ) (lam:=L.own D acc::bc fi Z2) (w:=[]) (μ:=[]) F9 hτ EA rfl
   have again:∀{sZ:Shared}{HZ:Hp}{ρZ:Ev}{acc':List L2.D},IR B ([]++pF fp s8.heap) σ9 HZ sZ->ay X.K Pr HZ (some (.ref D)::(σ++σ9)) (.own D acc'::(bc fi Z2++ρZ))->acc'.length<=i+1 ->
     (g6 g ti te (xs.drop (i+1)) ρZ acc' λys ρb=>∀a,p4 (.own a ys) (eN fi (ρb.drop Nt.length) (bc fi Z2)))->∃m,m<n/\∃i σ' H' Z' acc,m+i=xs.length/\IR B [] σ' H' sZ/\tn i sZ.heap/\(∀b∈fp,H' b=none)/\σ'.drop Nt.length=bJ fi σ /\
     ay X.K Pr H' (some (.ref D)::(σ++σ')) (.own D acc::(bc fi Z2++Z'))/\acc.length<=i/\g6 g ti te (xs.drop i) Z' acc λys ρb=>∀a,p4 (.own a ys) (eN fi (ρb.drop Nt.length) (bc fi Z2)):=λ{sZ HZ ρZ acc'} IZ EZ hz qZ=>by
    refine⟨n-1,xL,i+1,σ9,HZ,ρZ,acc',xL,IZ.unpinned,T.keep _ _ _ st8 λb hb o e=>(IZ.pin (b,o) (MM _ (MM _ (iC hb e)))).1,λb hb=>?_,dr9.trans dr6,EZ,hz,qZ⟩;obtain⟨o,e,d⟩:=T.obj _ _ st8 b hb;exact(IZ.pin (b,o) (MM _ (MM _ (iC hb e)))).2.1
   cases ok with
   | false =>
    rw[if_neg M6]at qA ⊢;exact again IA FA xL qA
   | true =>
    rw[if_pos rfl]at qA ⊢;have FAa:ay X.K (a9 HA ρA) HA σ9 ρA:=(ay.drop (τ:=some (V.ref D)::σ) (lam:=L.own D acc::bc fi Z2) FA hτ).wide;refine IT (hte _ _ _ _ _ sA σ9 HA _ ρA _ IA FAa qA) λux sB qB=>?_;obtain⟨vy,HB,y,ρB,IB,rB,EB,qB⟩:=EL.frz (X:=B) (p4:=λy Z3=>g6 g ti te (xs.drop (i+1)) Z3 (acc++[y]) λys ρb=>∀a,p4 (.own a ys) (eN fi (ρb.drop Nt.length) (bc fi Z2))) qB;have FB:ay X.K Pr HB (some vy::(some (V.ref D)::(σ++σ9))) (.d y::(L.own D acc::(bc fi Z2++ρB))):=ay.step (τ:=some (V.ref D)::σ) (lam:=L.own D acc::bc fi Z2) (w:=[some vy]) (μ:=[.d y]) FA hτ EB rfl;obtain⟨_,e1,p1⟩:=FB.head_d;cases e1;have JT:=FB.tail.sl
    cases JT with
    | cons q0 _ =>
     obtain⟨_,vs,hDB,rvs⟩:=q0;refine IT (pQ (X:=B) _ sB σ9 HB (.ref D) [vy] (.ref D) [ux] (λz H'=>H'=IH HB D (.lst (vs++[vy]))) IB rfl (.cons rB .nil) ⟨D,vs,vy,rfl,rfl,hDB,by rw[rvs.length];omega,rfl⟩) λ_ sC ⟨z,HC,IC,_,eC⟩=>?_;subst eC;exact again IC (FB.tail.write (rvs.append (.cons p1 .nil))) (by simp;omega) qB
  .
   have e:i=xs.length:=by omega
   subst e;refine IT (T.done B rfl rfl rfl hc xs.length [] s6 σ6 H6 (λ_ _=>False) I6 (stat fr6) st6 stop) λr s7 ⟨hr,I7⟩=>?_;subst hr;rw[List.drop_length]at w6;obtain⟨m,hm,_⟩:=id I7.loc;have I8:IR X gV σ H6 s7:=I3.call' (ch:=fp) I7.os I7.base I7.hok I7.bare λb hb=>⟨(f2 b hb).2.2.2.1,(f2 b hb).2.1,(f2 b hb).2.2.2.2.1,(f2 b hb).2.2.2.2.2⟩;have f4:=I3.fpOk (H':=H6) (b:=s3.heap.objs.size) (ME _) I7.free
   .
    have hlen6:σ6.length=Z6.length:=(ay.drop (τ:=some (V.ref D)::σ) (lam:=L.own D acc::bc fi Z2) E6 hτ).len
    have a1:ay X.K Pr H6 (bJ fi σ++(σ++[some (V.ref D)])) (Z6.drop Nt.length++(bc fi Z2++[L.own D acc])):=by
     have hcd:(bJ fi σ).length=(Z6.drop Nt.length).length:=by rw[<- dr6,Nm,Nm,hlen6]
     refine E6.rearr (by simp[hcd,hul,hlen6]) ((σ6.take Nt.length).zip (Z6.take Nt.length)) ?_;have l0:σ6.zip Z6=(σ6.take Nt.length).zip (Z6.take Nt.length)++(bJ fi σ).zip (Z6.drop Nt.length):=by rw[<- dr6,<- NA (by simp[hlen6]),List.take_append_drop,List.take_append_drop]
     have l1:(some (V.ref D)::(σ++σ6)).zip (L.own D acc::(bc fi Z2++Z6))=(some (V.ref D),L.own D acc)::(σ.zip (bc fi Z2)++σ6.zip Z6):=by rw[NJ,NA hul]
     have l2:(bJ fi σ++(σ++[some (V.ref D)])).zip (Z6.drop Nt.length++(bc fi Z2++[L.own D acc]))=(bJ fi σ).zip (Z6.drop Nt.length)++(σ.zip (bc fi Z2)++[(some (V.ref D),L.own D acc)]):=by rw[NA hcd,NA hul];rfl
     rw[l1,l2,l0];generalize (bJ fi σ).zip (Z6.drop Nt.length)=z1;generalize σ.zip (bc fi Z2)=z2;generalize (σ6.take Nt.length).zip (Z6.take Nt.length)=z3;have p1:((some (V.ref D),L.own D acc)::(z2++(z3++z1))).Perm ((z2++[(some (V.ref D),L.own D acc)])++(z3++z1)):=by rw[MV];exact List.perm_middle.symm
     refine p1.trans ?_;have p2:((z2++[(some (V.ref D),L.own D acc)])++(z3++z1)).Perm ((z3++z1)++(z2++[(some (V.ref D),L.own D acc)])):=Nl;refine p2.trans ?_;rw[MV];exact Nl
    have a2:=ay.backs (σ:=σ++[some (V.ref D)]) (cs:=Z6.drop Nt.length) (Z:=bc fi Z2++[L.own D acc]) fi hnd (by rw[Nm,<- hlen6,<- Nm,dr6];simp[bJ]) (λj hj=>by
     rw[Nh (by rw[d5];exact hjρ j hj)];exact tF fi Z2 j hj (hjρ j hj)) (λj hj=>by have:=hjσ j hj;simp;omega) (by rw[qc hjσ];exact a1)
    rw[nN λj hj=>by rw[d5];exact hjρ j hj]at a2;have hpl:σ.length=(eN fi (Z6.drop Nt.length) (bc fi Z2)).length:=by have:=a2.len;simpa using this
    refine hRR D s3.heap.objs.size s7 H6 acc (eN fi (Z6.drop Nt.length) (bc fi Z2)) m I8 hm f4.1 f4.2.1 I3.sz f4.2.2.2.2.1 f4.2.2.2.2.2 (a2.rearr (by simp[hpl]) [] ?_) (w6 D);rw[M9,NA hpl,NJ];exact Nl (l₂:=[(some (V.ref D),L.own D acc)])
 exact codeAny_compStart_list (loop _ rfl) (T.self _ 0 _ _ _ (T.keep 0 _ _ st2 λb hb o e=>old4 b o (old3 b o e)) (loop _ rfl))
theorem mq{elt tg iter:Expr}{ifs:List Expr}{scope sc:Scope}{pos:Pos}{N Nt Nf:List Str}{fi:List Nat}{src:W (List D)}{g:Tg}{ti:W Bool}{te:W L}
  (hsc:X.env.scope=sc) (hXN:X.N=N) (hc:X.calm=true) (hi:JL X tg iter src)
  (hkind:scope.kind=.function) (hnames:∀x∈scope.names,x.2=.local->scope.names.lookup x.1=some .local) (hcell:∀y∈scope.names,y.2≠.cell)
  (hfr:∀x∈scope.names,x.2=.free->sc.names.lookup x.1=some .cell∨sc.names.lookup x.1=some .free)
  (hnd:fi.Nodup) (hNf:Nf.map some=fi.map (λj=>N[j]?)) (hNk:∀x∈Nf,scope.names.lookup x=some .free) (hfl:∀j∈fi,j<N.length)
  (hg:∀cl s₀ H₀ fp,JR (jK X scope cl (Nt++Nf) s₀ H₀ fp) tg Nt.length g) (hti:∀cl s₀ H₀ fp,JS (jK X scope cl (Nt++Nf) s₀ H₀ fp) ifs ti) (hte:∀cl s₀ H₀ fp,PL (jK X scope cl (Nt++Nf) s₀ H₀ fp) elt te)
  (hs:∀x,foldedSetIterable iter X.env x=pure x:=by intro _;rfl):PL X (.ListComp elt [⟨tg,iter,ifs,0⟩] scope pos) (qf Nt.length fi src g ti te):=by
 intro gV s σ H Pr Z p4 I E h;rw[eval_ListComp];refine wg (use:=none) hsc hXN hc hi hkind hnames hcell hfr hnd hNf hNk hfl hg hti hte I E h (λD C s7 H6 acc Z'' m I7 hm h1 h2 h3 h4 h5 E7 p=>?_) hs;exact⟨m,hm,λh' hsb=>⟨.ref D,H6,_,Z'',I7.turned (t':=s7.toks) (λb o hb e=>(hsb.2 b hb).trans e) h1 (NH (NH h2)) (.inr h3) h4 h5,rfl,E7,p⟩⟩
end
section
variable{X:Cx}{e a b:Expr}{pos:Pos}{ta tb te:W L}{x y:Str}
def F5(i j:Nat)(ta tb:W L):W Fl:=λZ p4=>ta Z λr Z1=>JA r λv=>tb Z1 λr2 Z2=>JA r2 λw=>p4 .nx ((Z2.set i (.d v)).set j (.d w))
theorem DP{i j:Nat}{px py pt:Pos} {kt k2 pt2} (hc:X.calm=true) (hN:X.N.Nodup) (hi:X.N[i]?=some x) (hj:X.N[j]?=some y) (hij:i≠j)
  (hx:X.env.scope.names.lookup x=some .local) (hy:X.env.scope.names.lookup y=some .local) (ha:PL X a ta) (hb:PL X b tb)
  (hw:swappedStores [.Tuple [.Name x px,.Name y py] kt pt] (.Tuple [a,b] k2 pt2) X.env=pure (some [x,y]))
  (hs:swapsWithSole [.Tuple [.Name x px,.Name y py] kt pt] (.Tuple [a,b] k2 pt2) pos.line X.env=pure false:=by rfl)
  (h1:starEach [a,b] X.env=(false,eval a X.env)::starEach [b] X.env:=by rfl) (h2:starEach [b] X.env=[(false,eval b X.env)]:=by rfl) :
  PM X (.Assign [.Tuple [.Name x px,.Name y py] kt pt] (.Tuple [a,b] k2 pt2) pos) (F5 i j ta tb):=by
 refine PM.of (Dd hc hN hi hj hij hx hy (br (aC ha).pe (br (aC hb).pe fx h2) h1) hw hs) λσ H Pr Z p4 kz E h=>?_
 refine⟨Pr,Z,λr Z1=>match r with
  |.d v=>tb Z1 λr2 Z2=>JA r2 λw=>p4 .nx ((Z2.set i (.d v)).set j (.d w))
  |_=>False,E,h,λv H1 r Z1 E1 pp=>?_⟩
 cases r with
 | d dv =>
  refine⟨a9 H1 Z1,Z1,λr Z2=>match r with
   |.d w=>p4 .nx ((Z2.set i (.d dv)).set j (.d w))
   |_=>False,E1.tail.wide,pp,λw H2 r2 Z2 E2 pp=>?_⟩
  cases r2 with
  | d dw =>
   have E3:ay X.K Pr H2 (some w::some v::σ) (.d dw::.d dv::Z2):=ay.step (τ:=[some v]) (lam:=[.d dv]) (w:=[some w]) (μ:=[.d dw]) E1 rfl E2 rfl;have il:i<σ.length:=by rw[kz];exact(Mx.mp hi).1
   have jl:j<σ.length:=by rw[kz];exact(Mx.mp hj).1
   obtain⟨_,e1,r1⟩:=E3.head_d;cases e1;have E4:ay X.K Pr H2 (σ.set i (some v)) (Z2.set i (.d dv)):=E3.tail.store il;exact⟨v,w,rfl,_,(E4.cons_d r1).store (by simpa using jl),pp⟩
  |_=>exact pp.elim
 |_=>exact pp.elim
def wj(is:List Nat)(te:W L):W Fl:=λZ p4=>te Z λr Z1=>JA r λv=>lz is v Z1 λZ2=>p4 .nx Z2
theorem rL{tg:Expr}{is:List Nat}(hg:JJ X tg (lz is))(he:PL X e te)(hs:swapsWithSole [tg] e pos.line X.env=pure false:=by rfl)(hw:swappedStores [tg] e X.env=pure none:=by rfl)
  (h1:(assignEach [tg] X.env).map (·.2)=[assign tg X.env]:=by rfl):PM X (.Assign [tg] e pos) (wj is te):=by
 intro gV s σ H Pr Z p4 I E h;obtain⟨gg,hg,hgg⟩:=hg;refine wpAny_Assign_stores (IT (he gV s σ H Pr Z _ I E h) λv s1 q=>?_) hs hw;obtain⟨w,H1,d,Z1,I1,r1,E1,q1⟩:=EL.frz (p4:=λd Z1=>lz is d Z1 λZ2=>p4 .nx Z2) q;rw[h1];obtain⟨_,e1,p1⟩:=E1.head_d;cases e1;exact IT (hg gV s1 σ H1 w v _ I1 r1 (hgg w σ H1 Pr Z1 d _ I1.len E1.tail p1 q1)) λ_ s2 ⟨σ',H',I',e',_,Z',E',q⟩=>by subst e';exact⟨σ',_,Z',I',E',q⟩
noncomputable def JU:D->D->Bool
 |.non,.non=>true
 |.bl a,.bl b=>a == b
 |.bl a,.int b=>(if a then 1 else 0) == b
 |.int a,.bl b=>a == (if b then 1 else 0)
 |.int a,.int b=>a == b
 |.str a,.str b=>a == b
 |_,_=>false
noncomputable def Ju(x:D)(ys:List D):Bool:=ys.any λy=>JU y x
def JV(X:Cx)(lo:Option Expr)(t:Option (W L)):Prop:=match lo,t with
 |none,none=>True
 |some e,some t=>PL X e t
 |_,_=>False
theorem qg{K:PySem.W.Frag}{H:Hp}{vs:List V}{xs:List D}(r:bf K H vs xs)(l u:Option Int):bf K H (Aj vs l u) (vn xs l u):=by unfold Aj vn;rw[r.length];exact(r.drop _).take _
noncomputable def JW(K:PySem.W.Frag)(t:Option (W L)):TO:=λσ H Q=>∃Pr Z p4,ay K Pr H σ Z/\uM t Z p4/\∀i H' Z',ay K Pr H' σ Z'->p4 i Z'->Q i H'
theorem DQ{lo:Option Expr}{t:Option (W L)}(h:JV X lo t):PO X lo (JW X.K t):=by
 cases lo with
 | none =>
  cases t with
  | none =>
   intro gV s σ H Q I ⟨Pr,Z,p4,E,hw,q⟩;exact AY gV s σ H Q I (q none H Z E hw)
  |some t=>exact h.elim
 | some e =>
  cases t with
  |none=>exact h.elim
  | some t =>
   intro gV s σ H Q I ⟨Pr,Z,p4,E,hw,q⟩;refine AZ (PL.pe (show PL X e t from h)) gV s σ H Q I ⟨Pr,Z,_,E,hw,λv H' r Z' E' pp=>?_⟩;obtain⟨i,rfl,pp⟩:=cW pp;obtain⟨_,e1,p1⟩:=E'.head_d;cases e1;cases p1;exact⟨i,rfl,q (some i) H' Z' E'.tail pp⟩
end
def DS{α:Type}(o:Option L)(t u:W α)(Z:Ev)(p4:α->Ev->Prop):Prop:=match o with
 |some (.own _ _)=>t Z p4
 |_=>u Z p4
noncomputable def d7{α:Type}(i:Nat)(t u:W α):W α:=λZ p4=>DS Z[i]? t u Z p4
theorem yU{α:Type}(a:Addr)(xs:List D)(t u:W α)(Z:Ev)(p4:α->Ev->Prop):DS (some (.own a xs)) t u Z p4=t Z p4:=(rfl)
theorem DT{α:Type}(x:D)(t u:W α)(Z:Ev)(p4:α->Ev->Prop):DS (some (.d x)) t u Z p4=u Z p4:=(rfl)
theorem Br{α:Type}(a:Option Addr)(ls:List L)(t u:W α)(Z:Ev)(p4:α->Ev->Prop):DS (some (.bx a ls)) t u Z p4=u Z p4:=(rfl)
theorem gG{X:Cx}{e:Expr}{i:Nat}{t u:W L}(h:PL X e t)(h':PL X e u):PL X e (d7 i t u):=λgV s σ H Pr Z p4 I E q=>by
 unfold d7 DS at q;split at q
 . exact h gV s σ H Pr Z p4 I E q
 . exact h' gV s σ H Pr Z p4 I E q
theorem Bs{K:PySem.W.Frag}{c:Str}{C:Addr}{T:String}(h:g9 K c C=true)(hm:PySem.W.kitMeta T=true):PySem.W.kitOne K (.ref C) (.type T)=some ((["ValueError","Exception","BaseException","object"]:List String).contains T):=by obtain⟨L,cd,S⟩:=c8 h;unfold PySem.W.kitOne PySem.W.kitCls;rw[if_neg (show ¬((Value.ref C == Value.type T)=true)from λz=>by cases z)];dsimp only;rw[if_pos hm];show PySem.W.mroIn K C (.type T)=_;rw[S.mroIn,l6]
theorem nO{T:String}(h0:∀K d,(∀c ns xs,d≠.exc c ns xs)->PySem.W.kitOne K (JP d) (.type T)=some (je T d))(hm:PySem.W.kitMeta T=true):∀K d t,JQ K d t->PySem.W.kitOne K t (.type T)=some (je T d):=by
 intro K d t h
 cases d with
 | exc c ns xs =>
  obtain⟨C,e,h⟩:=h;rw[e];exact Bs h hm
 |_=>cases h;exact h0 K _ (λ_ _ _ z=>nomatch z)
theorem Bt:∀ K d t,JQ K d t->PySem.W.kitOne K t (.type "int")=some (je "int" d):=nO (λK d hd=>by cases d <;> first | rfl | exact absurd rfl (hd _ _ _)) y_
theorem tH:∀ K d t,JQ K d t->PySem.W.kitOne K t (.type "bool")=some (je "bool" d):=nO (λK d hd=>by cases d <;> first | rfl | exact absurd rfl (hd _ _ _)) y_
theorem wk:∀ K d t,JQ K d t->PySem.W.kitOne K t (.type "str")=some (je "str" d):=nO (λK d hd=>by cases d <;> first | rfl | exact absurd rfl (hd _ _ _)) y_
theorem oT:∀ K d t,JQ K d t->PySem.W.kitOne K t (.type "list")=some (je "list" d):=nO (λK d hd=>by cases d <;> first | rfl | exact absurd rfl (hd _ _ _)) y_
theorem mr:∀ K d t,JQ K d t->PySem.W.kitOne K t (.type "tuple")=some (je "tuple" d):=nO (λK d hd=>by cases d <;> first | rfl | exact absurd rfl (hd _ _ _)) y_
theorem nh:∀ K d t,JQ K d t->PySem.W.kitOne K t (.type "ValueError")=some (je "ValueError" d):=nO (λK d hd=>by cases d <;> first | rfl | exact absurd rfl (hd _ _ _)) y_
def uO(K:PySem.W.Frag)(mg:Str->Option Value)(x:Str)(d:D):Prop:=∃v u,mg x=some u/\bF v u/\∀H,Jx K H v d
theorem FD{X:Cx}{x:Str}{d:D}{pos:Pos}(g:uO X.K X.mg x d)(hg:Gl X x) (hdb:(x == ("__debug__" : Str))=false:=by decide):PL X (.Name x pos) (wC d):=by obtain⟨v,u,h1,h2,h3⟩:=g;exact Bc hg h1 h2 h3 hdb
theorem lT{K:PySem.W.Frag}{mg:Str->Option Value}{x:Str}{s:Int}{t:Tok}(h1:mg x=some (.int s t)):uO K mg x (.int s):=⟨.int s,_,h1,⟨t,rfl⟩,λH=>.int s⟩
theorem qh{K:PySem.W.Frag}{H:Hp}:∀ns:List Int,bf K H (ns.map V.int) (ns.map D.int)
 |[]=>.nil
 |n::ns=>.cons (.int n) (qh ns)
theorem wm{K:PySem.W.Frag}{H:Hp}{a:Addr}{ns:List Int}{fs:FS}{n:Nat}(hl:ns.length<=n)(hO:Fy H)(hS:IW K H a (ns.map V.int))(h:fs [.d (.lst (ns.map .int))] (λr _=>r=.d (.bl true))):spF K 1 fs [.ref a] H (λv _=>v=.bl true) λ_ _ _=>False:=by
 have hz:Jw K H a (ns.map V.int):=by
  rcases hS with(h|⟨o,h⟩)|h
  .
   rcases hO a with z|⟨o,xs,z⟩|⟨q,z⟩
   . rw[z]at h;cases h
   . rw[z]at h;cases h
   . rw[z]at h;cases h
  . exact .inl ⟨o,h⟩
  . exact .inr h
 refine⟨rfl,λ_=>none,[.d (.lst (ns.map .int))],_,⟨(λb o e=>nomatch e),(show([]:List Addr).Nodup from Oj),(λa h=>absurd (show a∈([]:List Addr)from h) v6),.cons ⟨.ref a,rfl,.lst hz (qh ns)⟩ .nil⟩,h,λv H' r ls' E p=>?_⟩;subst p;obtain⟨_,e,r⟩:=E.head_d;cases e;cases r;rfl
section
variable{X:Cx}
def yV:JB:=λx y k=>match y with
 |.non=>k (.d (.bl (match x with | .non=>true|_=>false)))
 |_=>False
theorem Bu:JC X (compareOp .Is) yV:=DL.imp λx y k h=>by
 unfold yV at h;split at h
 . exact⟨rfl,h⟩
 . exact h.elim
end
end L2
namespace L2
open PySem
theorem tI(a b:Int):Int.gcd b (a.fmod b)=Int.gcd a b:=by rw[Int.fmod_def,Int.gcd_sub_mul_left_right,Int.gcd_comm]
theorem iU(a:Int){b:Int}(h:b≠0):(a.fmod b).natAbs<b.natAbs:=by
 rw[Int.fmod_eq_emod];have h1:=N7 a h;have h2:a % b<(b.natAbs:Int):=Int.emod_lt a h;split
 . omega
 . rename_i q;have:a % b≠0:=λe=>q (.inr (Int.dvd_of_emod_eq_zero e));omega
noncomputable def JX(q:Rat):D:=.tup [.int q.num,.int (q.den:Int)]
theorem rM{t b:Int}(h:b≠0):0<Int.gcd t b:=Int.gcd_pos_of_ne_zero_right _ h
noncomputable def cN(t b:Int):Int:=if b<0 then -(Int.gcd t b:Int)else(Int.gcd t b:Int)
theorem yW{t b:Int}(h:b≠0):cN t b≠0:=by have:=rM (t:=t) h;unfold cN;split<;>omega
theorem wo(t b:Int):(cN t b).natAbs=Int.gcd t b:=by unfold cN;split<;>omega
theorem yX{t b:Int}(h:b≠0):(cN t b).natAbs<=b.natAbs:=by rw[wo];exact Nat.le_of_dvd xL (by have:=Int.gcd_dvd_right t b;exact Int.natAbs_dvd_natAbs.mpr this |> λq=>by simpa using q)
theorem mv{a g:Int}(hg:g≠0)(h:g∣a):a.fdiv (-g)=-(a / g):=by obtain⟨k,rfl⟩:=h;rw[Int.mul_ediv_cancel_left _ hg,show g*k=(-g)*(-k) by rw[Int.neg_mul_neg],Int.mul_fdiv_cancel_left _ xL]
theorem wu{t b:Int}(h:b≠0):t.fdiv (cN t b)=(Rat.divInt t b).num:=by
 have hg:=rM (t:=t) h;have hd:(Int.gcd t b:Int)∣t:=Int.gcd_dvd_left t b;rw[Rat.num_divInt,Int.gcd_comm b t];unfold cN;split
 . rename_i hb;rw[mv xL hd,Int.sign_eq_neg_one_of_neg hb,Int.neg_one_mul,Int.neg_ediv_of_dvd hd]
 . rename_i hb;rw[Int.sign_eq_one_of_pos xL,Int.one_mul,Int.fdiv_eq_ediv_of_nonneg _ xL]
theorem Bv{t b:Int}(h:b≠0):b.fdiv (cN t b)=((Rat.divInt t b).den:Int):=by
 have hg:=rM (t:=t) h;have hd:(Int.gcd t b:Int)∣b:=Int.gcd_dvd_right t b;rw[Rat.den_divInt,if_neg h,Int.gcd_comm b t,Int.natCast_ediv];unfold cN;split
 .
  rename_i hb;rw[mv xL hd,<- Int.neg_ediv_of_dvd hd]
  congr 1
  omega
 .
  rename_i hb;rw[Int.fdiv_eq_ediv_of_nonneg _ xL]
  congr 1
  omega
theorem Ap{t b:Int}(h:b≠0):(Rat.divInt t b).den<=b.natAbs:=by rw[Rat.den_divInt,if_neg h];exact Nat.div_le_self _ _
theorem Aq{t b:Int}(h:b≠0):(Rat.divInt t b).num.natAbs<=t.natAbs:=by rw[<- wu h];exact PySem.natAbs_fdiv_le _ _
theorem den_pos(q:Rat):0<q.den:=Nat.pos_of_ne_zero q.den_nz
theorem DU(p q:Rat):Rat.divInt (p.num*(q.den:Int)+q.num*(p.den:Int)) ((p.den:Int)*(q.den:Int))=p+q:=by have hp:=den_pos p;have hq:=den_pos q;have:=Rat.divInt_add_divInt p.num q.num (d₁:=(p.den:Int)) (d₂:=(q.den:Int)) xL xL;rw[Rat.num_divInt_den,Rat.num_divInt_den]at this;exact this.symm
def RB(n:Nat)(q:Rat):Prop:=q.num.natAbs<2^n/\q.den<2^n
theorem RB.mono{m n:Nat}{q:Rat}(h:RB m q)(hl:m<=n):RB n q:=⟨Mz h.1 (Nv x_ hl),Mz h.2 (Nv x_ hl)⟩
theorem kI{a b m n:Nat}(h1:a<2^m)(h2:b<2^n):a*b<2^(m+n):=by rw[Nat.pow_add];exact Nat.mul_lt_mul'' h1 h2
theorem RB.add{m n:Nat}{p q:Rat}(hp:RB m p)(hq:RB n q):RB (m+n+1) (p+q):=by
 have dp:=den_pos p;have dq:=den_pos q;have hne:((p.den:Int)*(q.den:Int))≠0:=Int.mul_ne_zero xL xL;rw[<- DU p q];have a1:=kI hp.1 hq.2;have a2:=kI hq.1 hp.2;have a3:=kI hp.2 hq.2;have e:(2:Nat)^(m+n+1)=2^(m+n)+2^(m+n):=by rw[Nat.pow_succ];omega
 rw[Nat.add_comm n m]at a2;constructor
 . refine Nd (Aq hne) ?_;refine Nd (Int.natAbs_add_le _ _) ?_;rw[Int.natAbs_mul,Int.natAbs_mul,NK,NK,e];omega
 . refine Nd (Ap hne) ?_;rw[Int.natAbs_mul,NK,NK,e];omega
@[simp] theorem jg(i j:Int):JN (.int i) (.int j)=decide (i=j):=by simp[JN,JM,PyData.eqv];by_cases h:i=j<;>simp[h]
@[simp] theorem wx(i j:Str):JN (.str i) (.str j)=decide (i=j):=by simp[JN,JM,PyData.eqv];by_cases h:i=j<;>simp[h]
@[simp] theorem DV(i j:Bool):JN (.bl i) (.bl j)=decide (i=j):=by simp[JN,JM,PyData.eqv];cases i<;>cases j<;>rfl
@[simp] theorem uP(i:Int):bY (.int i):=rfl
@[simp] theorem wy(i:Bool):bY (.bl i):=rfl
@[simp] theorem uQ:bY .non:=rfl
mutual
noncomputable def JY:Nat->D->Bool
 |_,.non=>true
 |_,.bl _=>true
 |_,.int _=>true
 |_,.str x=>PyData.strOk x
 |0,.tup _=>false
 |0,.lst _=>false
 |n+1,.tup xs=>vo n xs
 |n+1,.lst xs=>vo n xs
 |_,.dct _=>false
 |_,.exc _ _ _=>false
 |_,.fn _ _=>false
 |_,.dk _ _=>false
 |_,.gf _=>false
noncomputable def vo:Nat->List D->Bool
 |_,[]=>true
 |n,x::xs=>JY n x && vo n xs
end
mutual
theorem rN:∀(n:Nat)(d:D),JY n d=true->(JM d).canLay0=true/\(JM d).depth<=n
 |_,.non,_=>⟨rfl,NW _⟩
 |_,.bl _,_=>⟨rfl,NW _⟩
 |_,.int _,_=>⟨rfl,NW _⟩
 |_,.str x,h=>⟨by simpa[JY,JM,PyData.canLay0]using h,NW _⟩
 |0,.tup _,h=>by simp[JY]at h
 |0,.lst _,h=>by simp[JY]at h
 | n+1,.tup xs,h=>by
  obtain⟨h1,h2⟩:=oU n xs (by simpa[JY]using h)
  exact⟨h1,Nat.succ_le_succ h2⟩
 | n+1,.lst xs,h=>by
  obtain⟨h1,h2⟩:=oU n xs (by simpa[JY]using h)
  exact⟨h1,Nat.succ_le_succ h2⟩
 |_,.dct _,h=>by simp[JY]at h
 |_,.exc _ _ _,h=>by simp[JY]at h
 |_,.fn _ _,h=>by simp[JY]at h
 |_,.dk _ _,h=>by simp[JY]at h
 |_,.gf _,h=>by simp[JY]at h
theorem oU:∀(n:Nat)(ds:List D),vo n ds=true->PyData.canLayAll0 (fT ds)=true/\PyData.depthAll (fT ds)<=n
 |_,[],_=>⟨rfl,NW _⟩
 | n,d::ds,h=>by
  have h':JY n d=true/\vo n ds=true:=by simpa[vo]using h
  obtain⟨a1,a2⟩:=rN n d h'.1
  obtain⟨b1,b2⟩:=oU n ds h'.2
  exact⟨by simp[fT,PyData.canLayAll0,a1,b1],by simp only[fT,PyData.depthAll];omega⟩
end
theorem cx{n:Nat}{d:D}(h:JY n d=true)(hn:n<=64):bY d:=by obtain⟨h1,h2⟩:=rN n d h;unfold bY SeqAt.shaped;rw[h1,Nn xL];rfl
theorem wB(xs ys:List D):JN (.tup xs) (.tup ys)=PyData.eqvAll (fT xs) (fT ys):=by simp[JN,JM,PyData.eqv]
theorem jL(x y:D)(xs ys:List D):PyData.eqvAll (fT (x::xs)) (fT (y::ys))=(JN x y && PyData.eqvAll (fT xs) (fT ys)):=by simp[fT,PyData.eqvAll,JN]
theorem tJ:PyData.eqvAll (fT []) (fT [])=true:=by simp[fT,PyData.eqvAll]
theorem yY(q:Rat):bY (JX q):=cx (n:=1) (by simp[JX,JY,vo]) x_
theorem DW(p q:Rat):JN (JX p) (JX q)=decide (p=q):=by
 unfold JX;rw[wB,jL,jL,tJ,jg,jg,Bool.and_true];by_cases h:p=q
 . subst h;simp
 .
  rw[MP h];by_cases h1:p.num=q.num
  . have:¬((p.den:Int)=(q.den:Int)):=λe=>h (Rat.ext h1 xL);simp[this]
  . simp[h1]
end L2
namespace L2
open PySem PySem.Spec PyProof.Rows
section
variable{X:Cx}{a b c:Expr}{pos p:Pos}{ta tb tc:W L}
def mw(o o':JB)(ta tb tc:W L):W L:=λZ p4=>ta Z λr Z1=>kE r λi=>tb Z1 λr Z2=>kE r λj=>o (.int i) (.int j) λz=>vk z λk=>if k=true then tc Z2 λr Z3=>kE r λl=>o' (.int j) (.int l) λz=>p4 z Z3 else p4 (.d (.bl false)) Z2
def C1(X:Cx)(op:CmpOp)(o:JB):Prop:=∃f:Int->Int->Bool,Jc X (compareOp op) (Jf λi j=>.bl (f i j))/\∀i j k,o (.int i) (.int j) k->k (.d (.bl (f i j)))
theorem F6:C1 X .Lt Am:=⟨_,Dm,λ_ _ _ h=>h⟩
theorem wD:C1 X .LtE yj:=⟨_,Dn,λ_ _ _ h=>h⟩
theorem tK{op op':CmpOp}{o o':JB}{f f':Int->Int->Bool}(h1:∀i j k,o (.int i) (.int j) k->k (.d (.bl (f i j))))(h2:∀i j k,o' (.int i) (.int j) k->k (.d (.bl (f' i j))))
  (σ:St) (H Pr:Hp) (Z:Ev) (p4:L->Ev->Prop) (Q:VK) (hQ:∀v H' r Z',ay X.K Pr H' (some v::σ) (r::Z')->p4 r Z'->Q v H') (E:ay X.K Pr H σ Z) (h:mw o o' ta tb tc Z p4) :
  vG (Jf λi j=>.bl (f i j)) (Jf λi j=>.bl (f' i j)) (tL X.K ta) (tL X.K tb) (tL X.K tc) σ H Q:=by
 refine⟨Pr,Z,_,E,h,λv H1 r Z1 E1 p=>?_⟩;obtain⟨i,rfl,p⟩:=cW p;obtain⟨_,e1,r1⟩:=E1.head_d;cases e1;cases r1;refine⟨Pr,Z1,_,E1.tail,p,λv H2 r Z2 E2 p=>?_⟩;obtain⟨j,rfl,p⟩:=cW p;obtain⟨_,e1,r1⟩:=E2.head_d;cases e1;cases r1;refine⟨i,j,rfl,rfl,f i j,rfl,?_⟩;have q:=h1 i j _ p
 cases hk:f i j with
 | false =>
  rw[hk]at q;exact hQ _ _ _ Z2 (E2.tail.cons_d (.bl false)) q
 | true =>
  rw[hk]at q;refine⟨Pr,Z2,_,E2.tail,q,λv H3 r Z3 E3 p=>?_⟩;obtain⟨l,rfl,p⟩:=cW p;obtain⟨_,e1,r1⟩:=E3.head_d;cases e1;cases r1;exact⟨j,l,rfl,rfl,hQ _ _ _ Z3 (E3.tail.cons_d (.bl _)) (h2 j l _ p)⟩
theorem tM{op op':CmpOp}{o o':JB}(ho:C1 X op o)(ho':C1 X op' o')(ha:PL X a ta)(hb:PL X b tb)(hc:PL X c tc)(hm:lastMarks [op,op'] [b,c]=false:=by with_unfolding_all rfl) :
  PL X (.Compare a [op,op'] [b,c] pos) (mw o o' ta tb tc):=by
 obtain⟨f,r1,h1⟩:=ho;obtain⟨f',r2,h2⟩:=ho';exact PL.of (yr r1 r2 ha.pe hb.pe hc.pe hm) λσ H Pr Z p4 E h=>tK (op:=op) (op':=op') h1 h2 σ H Pr Z p4 _ (λv H' r Z' E' p=>⟨r,Z',E',p⟩) E h
theorem yZ{op op':CmpOp}{o o':JB}(ho:C1 X op o)(ho':C1 X op' o')(ha:PL X a ta)(hb:PL X b tb)(hc:PL X c tc)(hm:lastMarks [op,op'] [b,c]=false:=by with_unfolding_all rfl) :
  PB X (.Compare a [op,op'] [b,c] pos) (aY (mw o o' ta tb tc)):=by
 obtain⟨f,r1,h1⟩:=ho;obtain⟨f',r2,h2⟩:=ho';intro gV s σ H Pr Z p4 I E h;refine IT (yt r1 r2 ha.pe hb.pe hc.pe hm gV s σ H (λb H'=>∃Z',ay X.K Pr H' σ Z'/\p4 b Z') I ?_) λb s1 ⟨H1,I1,Z1,E1,p1⟩=>⟨H1,Z1,I1,E1,p1⟩;refine tK (op:=op) (op':=op') h1 h2 σ H Pr Z (λr Z1=>vk r λb=>p4 b Z1) _ (λv H' r Z' E' p=>?_) E h;obtain⟨b,rfl,p⟩:=l8 p;obtain⟨_,e1,r1⟩:=E'.head_d;cases e1;cases r1;exact⟨b,rfl,Z',E'.tail,p⟩
end
end L2
namespace L2
open PySem PySem.Spec PyProof.Rows PySem.Builtin.Str
section
variable{X:Cx}{a:Expr}{pos p2:Pos}{ta:W L}{x:Str}
theorem DX:Jl X (λx lo hi H Q=>∃z,x=.str z/\z.length<=sizeLine/\Q (.str (Txt.slice z lo hi)) H):=by
 intro gV s σ H x v vl vu lo hi sl Q I rx hs pl pu h;obtain⟨z,rfl,hz,q⟩:=h;obtain⟨t,rfl⟩:=rx;refine⟨"str",_,F.slot_str_getitem.lookup,typeIs_str _ _ _,?_⟩
 obtain⟨l',rfl,rfl⟩:∃l':Option (Int×Tok),vl=partValue l'/\lo=l'.map (·.1):=by
  cases pl
  . exact⟨none,rfl,rfl⟩
  . exact⟨some (_,_),rfl,rfl⟩
 obtain⟨u',rfl,rfl⟩:∃l':Option (Int×Tok),vu=partValue l'/\hi=l'.map (·.1):=by
  cases pu
  . exact⟨none,rfl,rfl⟩
  . exact⟨some (_,_),rfl,rfl⟩
 exact wpAny_getItem_str_slice (l:=l') (u:=u') (st:=none) hs rfl (post_val_or_str ⟨MH (Txt.slice_le z _ _) hz,λt' k=>⟨.str _,H,I.tok k,⟨t',rfl⟩,q⟩⟩)
def y1(ta:W L)(lo hi:Option (W L)):W L:=λZ p4=>ta Z λr Z1=>JA r λd=>uM lo Z1 λl Z2=>uM hi Z2 λu Z3=>match d with
 |.lst xs=>∀a,p4 (.own a (vn xs l u)) Z3
 |.str z=>z.length<=sizeLine/\p4 (.d (.str (Txt.slice z l u))) Z3
 |.tup xs=>¬(HT.sIx xs.length 0 l=0/\HT.sIx xs.length xs.length u=xs.length)/\p4 (.d (.tup (vn xs l u))) Z3
 |_=>False
theorem d8{lo hi:Option Expr}{tl th:Option (W L)}(ha:PL X a ta)(hl:JV X lo tl)(hh:JV X hi th):PL X (.Subscript a (.Slice lo hi none p2) pos) (y1 ta tl th):=by
 refine PL.of (yw (Jl.or A0 (Jl.or DX Ds)) (aC ha).pe (DQ hl) (DQ hh)) λσ H Pr Z p4 E h=>?_
 refine⟨Pr,Z,λr Z1=>match r with
  | .d d=>uM tl Z1 λl Z2=>uM th Z2 λu Z3=>match d with
   |.lst xs=>∀a,p4 (.own a (vn xs l u)) Z3
   |.str z=>z.length<=sizeLine/\p4 (.d (.str (Txt.slice z l u))) Z3
   |.tup xs=>¬(HT.sIx xs.length 0 l=0/\HT.sIx xs.length xs.length u=xs.length)/\p4 (.d (.tup (vn xs l u))) Z3
   |_=>False
  |_=>False,E,h,λv H1 r Z1 E1 pp=>?_⟩
 cases r with
 | d d =>
  obtain⟨_,e1,p1⟩:=E1.head_d;cases e1;refine⟨a9 H1 Z1,Z1,_,E1.tail.wide,pp,λl H2 Z2 E2 pp=>?_⟩;have F2:ay X.K Pr H2 (some v::σ) (.d d::Z2):=ay.step (τ:=[some v]) (lam:=[.d d]) (w:=[]) (μ:=[]) E1 rfl E2 rfl;refine⟨a9 H2 Z2,Z2,_,F2.tail.wide,pp,λu H3 Z3 E3 pp=>?_⟩;have F3:ay X.K Pr H3 (some v::σ) (.d d::Z3):=ay.step (τ:=[some v]) (lam:=[.d d]) (w:=[]) (μ:=[]) F2 rfl E3 rfl;obtain⟨_,e1,p1⟩:=F3.head_d;cases e1
  cases p1 with
  |lst hz rs=>exact .inl ⟨_,_,rfl,hz.l,λq hq=>⟨_,_,F3.tail.cons_own hq (qg rs l u),pp q⟩⟩
  |str z=>exact .inr (.inl ⟨z,rfl,pp.1,_,_,F3.tail.cons_d (.str _),pp.2⟩)
  |tup hz rs=>exact .inr (.inr ⟨_,_,rfl,hz,by rw[rs.length];exact pp.1,λq hq=>⟨_,_,F3.tail.cons_tup hq (qg rs l u),pp.2⟩⟩)
  |_=>exact pp.elim
 |_=>exact pp.elim
def F7(K:PySem.W.Frag):V->List V->Hp->VK->Prop:=λx vs H Q=>∃z a ys zs,x=.str z/\vs=[.ref a]/\(IW K H a ys∨IX K H a ys)/\ys=zs.map V.str/\(zs.map (·.length)).sum+zs.length*z.length<=16777216/\Q (.str (Txt.join z zs)) H
theorem mx:∀{zs:List Str}{us:List Value},bL (zs.map V.str) us->StrsAre us zs
 |[],_,.nil=>.nil
 | z::zs,_,.cons r t=>by obtain⟨t',rfl⟩:=r;exact .cons z t' (mx t)
theorem Bw:Jq X "str.join" (F7 X.K):=by
 intro gV s σ H x vs v us Q I rx rv h;obtain⟨z,a,ys,zs,rfl,rfl,hq,rfl,hz,q⟩:=h;obtain⟨t,rfl⟩:=rx;obtain⟨u,rfl,ru⟩:=rv.one;cases ru;rcases hq with hq|hq
 . obtain⟨its,r,pl,_⟩:=I.list hq;exact join_list pl.isList (by simpa using mx r) hz λt' k=>⟨.str _,H,I.tok k,⟨t',rfl⟩,q⟩
 . obtain⟨its,r,pl,_⟩:=I.tuple hq;exact join_tuple pl (by simpa using mx r) hz λt' k=>⟨.str _,H,I.tok k,⟨t',rfl⟩,q⟩
end
section
variable{X:Cx}{e a b c:Expr}{es:List Expr}{pos p apos cpos:Pos}{te:W L}{x y:Str}
def Bx(z:Str)(te:W L):W L:=λZ p4=>te Z λr Z1=>JA r λd=>mf d λxs=>∃zs,xs=zs.map D.str/\(zs.map (·.length)).sum+zs.length*z.length<=16777216/\p4 (.d (.str (Txt.join z zs))) Z1
theorem my{K:PySem.W.Frag}{H:Hp}:∀{zs:List Str}{vs:List V},bf K H vs (zs.map D.str)->vs=zs.map V.str
 |[],_,.nil=>rfl
 | z::zs,_,.cons r t=>by cases r;rw[my t];rfl
theorem By{z:Str}{j:Nat}{pz:Pos}(he:PL X e te)(hs1:starEach [e] X.env=[(false,eval e X.env)]:=by rfl) (hbase:attributeBase (.Constant (.str z) j pz) "join" X.env (eval (.Constant (.str z) j pz) X.env)=eval (.Constant (.str z) j pz) X.env:=by rfl)
  (hfew:((backTo cpos (starEach [e] X.env)).all (λx=>!x.1) && (backToKw cpos (keywordEach [] X.env)).all (λx=>x.1.isSome)
   && decide (([e]).length+([]:List Keyword).length+(if([]:List Keyword).isEmpty then 0 else 1)<30))=true:=by rfl)
  (hline:(apos.endLine == cpos.line)=true:=by rfl) (hplain:(backTo cpos (starEach ([]:List Expr) X.env)).any (·.1)=false:=by rfl) :
  PL X (.Call (.Attribute (.Constant (.str z) j pz) "join" apos) [e] [] cpos) (Bx z te):=by
 refine PL.of (A1 PySem.F.plainAttrs_str PySem.F.slot_str_join PySem.F.type_str_join Bw vA (br (aC he).pe fx hs1) (hbase:=hbase) (hfew:=hfew) (hline:=hline) (hs:=hs1) (hplain:=hplain)) λσ H Pr Z p4 E h=>?_
 refine⟨rfl,Pr,Z,λr Z1=>match r with
  |.d d=>mf d λxs=>∃zs,xs=zs.map D.str/\(zs.map (·.length)).sum+zs.length*z.length<=16777216/\p4 (.d (.str (Txt.join z zs))) Z1
  |_=>False,E,h,λv H' r Z' E' pp=>?_⟩
 cases r with
 | d d =>
  obtain⟨_,e1,p1⟩:=E'.head_d;cases e1
  cases p1 with
  | lst hz rs =>
   obtain⟨zs,rfl,hl,pp⟩:=pp;exact⟨z,_,_,zs,rfl,rfl,.inl hz.l,my rs,hl,_,_,E'.tail.cons_d (.str _),pp⟩
  | tup hz rs =>
   obtain⟨zs,rfl,hl,pp⟩:=pp;exact⟨z,_,_,zs,rfl,rfl,.inr hz,my rs,hl,_,_,E'.tail.cons_d (.str _),pp⟩
  |_=>exact pp.elim
 |_=>exact pp.elim
theorem IR.turnedL{gV:List (Addr×Obj)}{σ:St}{H:Hp}{s:Shared}{h':Heap}{t':Nat}{fp:List Addr}(I:IR X gV σ H s)(k:∀b o,b∉fp->s.heap.get? b=some o->h'.get? b=some o)(hf:∀b∈fp,yh X gV H b):IR X gV σ H {s with heap:=h',toks:=t' }:=by
 have nit:∀b u,H b=some u->b∉fp:=λb u e z=>by rw[(hf b z).1]at e;cases e
 refine I.step (g':=s.gens) (d':=s.drawn) (ch:=fp) (λb hb=>?_) (λb o _ _ hc e _=>k b o hc e) (λb o _ _ hc e _=>⟨o.slots,k b o hc e⟩) (λ_ _ _ _ n=>n)
  (λb o hc e=>⟨o,k b o hc e⟩) (λ_ _ e=>e) (λ_ _ _ e=>e) (λ_ _ e=>e) (λm hm=>?_) (λb u e=>?_) I.bare
 . obtain⟨f0,f1,f2,f3,f4,f5⟩:=hf b hb;exact⟨f3,f1,f4,f5⟩
 . obtain⟨o,es,ep,ho,r⟩:=hm;exact⟨o,es,ep,k _ o (λz=>(hf _ z).2.1 rfl) ho,r⟩
 .
  refine(I.hok b u e).stay (λc v hc q=>k c v ?_ q) (λ_ q=>q) (λ_ _ q=>q) λ_ _ _ _ q=>q;rcases hc with z|z
  . rw[z];exact nit b u e
  . exact nit c _ z
noncomputable def JZ(K:PySem.W.Frag)(a:Addr):It :=
 ⟨λi H=>∃xs x,IW K H a xs/\xs[i]?=some x,λi H v H'=>∃p x,v=.ref p/\H p=none/\H'=IH H p (.tup [.int i,x])/\∀xs,IW K H a xs->xs[i]?=some x,λi H=>∃xs,IW K H a xs/\xs.length<=i⟩
theorem wF{P:Program}{w:World}{K:PySem.W.Frag}{k:Nat}(q it a:Addr)(hne:q≠it):Df P w K (.Tuple es k pos) (JZ K a) [q,it] q (λi h=>(∃old,IsEnum h q it i old)/\h.IsListIter it a i) where
 mem:=by simp
 obj:=λi h st b hb=>by
  obtain⟨⟨old,he⟩,o,e,c,d⟩:=st;rcases MC.mp hb with rfl|hb
  .
   exact⟨_,he,λv z=>by
    have z':Data.fields _=Data.cell v:=z
    cases z'⟩
  .
   have e':b=it:=by simpa using hb
   subst e';exact⟨o,e,λv z=>by rw[d]at z;cases z⟩
 keep:=λi h h' st kk=>⟨let ⟨old,he⟩:=st.1;⟨old,kk q v6 _ he⟩,st.2.at λo e=>kk it v6 o e⟩
 item:=by
  intro X hP hw hK hc i gV s σ H E I hf st hg;subst hP hw hK;obtain⟨xs,x,hq,hx⟩:=hg;obtain⟨its,rv,p,hz⟩:=I.list hq;obtain⟨u,hu,ru⟩:=rv.get hx;obtain⟨⟨old,he⟩,hit⟩:=st;have hai:a≠it:=λz=>by subst z;obtain⟨o,e,c,d⟩:=hit;obtain⟨o',e',c',_⟩:=p.isList;rw[e]at e';cases e';rw[c]at c';exact absurd c' v6
  have hqa:q≠a:=λz=>by subst z;obtain⟨o',e',c',_⟩:=p.isList;rw[he]at e';cases e';exact absurd c' v6
  have D:=Draws.list (prog:=X.prog) (w:=X.w) (A:=X.A.in1) (I.ok.hd hc) it a hai its.toArray;have hlt:i<its.toArray.size:=by rw[MF];exact(Mx.mp hu).1
  refine wpAny_pyNext_enum_itemD D he ⟨hit,p.isList⟩ hlt hne (by simp[hne,hqa]) λx' h' tk hPx hout hst' htup hsz hk=>?_
  have hx':x'=u:=by
   have:its.toArray[i]?=some u:=by simpa using hu
   rw[this]at hPx;exact(MZ hPx).symm
  subst hx';refine⟨.ref s.heap.objs.size,rfl,wpAny_letOwnedTupleGo_enum (s:={s with heap:=h',toks:=tk+1}) hout λh'' he'' hs''=>?_⟩;have qlt:q<s.heap.objs.size:=MA he;have ilt:it<s.heap.objs.size:=by obtain⟨o,e,_⟩:=hit;exact MA e
  have I1:IR X gV σ (IH H s.heap.objs.size (.tup [.int i,x])) {s with heap:=s.heap.push {cls:=.type "tuple",data:=.seq #[.int i tk,x'] },toks:=tk} :=
   I.laid (λb ob q=>tu _ q) (ME _) ⟨by show 2<=sizeLine;decide,[.int i tk,x'],.cons ⟨tk,rfl⟩ (.cons ru .nil),⟨_,M4 _ rfl,rfl,_,rfl⟩⟩
  have hf1:∀b∈[q,it],yh X gV (IH H s.heap.objs.size (.tup [.int i,x])) b:=λb hb=>by
   refine⟨?_,(hf b hb).2⟩;rw[ar ?_]
   . exact(hf b hb).1
   .
    rcases MC.mp hb with rfl|hb
    . exact MO qlt
    . rw[Nk.mp hb];exact MO ilt
  have I2:=I1.turnedL (h':=h'') (t':=tk+1) (fp:=[q,it]) (λb o hb e=>by
   have hbq:b≠q:=λz=>hb (by simp[z]);have hbi:b≠it:=λz=>hb (by simp[z]);refine(hs''.2 b hbq).trans ?_;rcases Heap.get?_push_cases e with⟨rfl,rfl⟩|e
   . exact htup
   .
    exact hk b o hbq hbi e) hf1
  refine⟨.ref s.heap.objs.size,_,I2,rfl,⟨_,x,rfl,I.fresh,rfl,λys hy=>by rw[I.list_inj hy hq];exact hx⟩,⟨⟨_,by simpa using he''⟩,hst'.1.extBut hs''.extBut (NH hne)⟩,λb hb=>(hf1 b hb).1⟩
 done:=by
  intro X hP hw hK hc i gV s σ H E I hf st hg;subst hP hw hK;obtain⟨xs,hq,hx⟩:=hg;obtain⟨its,rv,p,hz⟩:=I.list hq;obtain⟨⟨old,he⟩,hit⟩:=st;have hai:a≠it:=λz=>by subst z;obtain⟨o,e,c,d⟩:=hit;obtain⟨o',e',c',_⟩:=p.isList;rw[e]at e';cases e';rw[c]at c';exact absurd c' v6
  have hl:=rv.length;have hT:s.TypeIs (.ref q) "enumerate":=⟨_,he,rfl⟩;unfold pyNext
  refine kS (wpAny_attempt (wpAny_callSpecial?_slot (name:=Str.ofString "__next__") hT F.slot_enumerate_next
   (wpAny_call_entry F.slot_enumerate_next hT F.entry_enumerate_next ?_ (F.args_enumerate_next_1 _))))
  show wpAny _ _ (field (.ref q) 2 >>= _) _ _ _;refine kS (Ob he rfl (x:=.ref it) rfl ?_);refine kS (wpAny_nextOf_list_end (I.ok.hd hc) hit p.isList (by simp;omega) λh' x he' hx'=>?_);obtain⟨o,ho,hcc⟩:=hx';refine kS (wpAny_isInstance (T:="StopIteration") (b:=true) ⟨o,ho,hcc⟩ isSubtype_stop ?_);refine MB ⟨rfl,?_⟩;exact I.turnedL (t':=s.toks) (fp:=[q,it]) (λb o hb e=>he' b o (λz=>hb (by simp[z])) e) hf
 self:=λ_ _ _ _ _ st h=>let ⟨_,he⟩:=st.1;wpAny_pyIter_enum he h
noncomputable def nj(xs:List D):List D:=xs.zipIdx.map λp=>.tup [.int (p.2:Int),p.1]
theorem uR{K:PySem.W.Frag}{H:Hp}{a:Addr}{vs:List V}{xs:List D}(h:Jw K H a vs)(r:bf K H vs xs):yM K H (JZ K a) (nj xs):=λH' p=>by
 have h':=(h.pres p).l;have kz:(nj xs).length=vs.length:=by rw[r.length];simp[nj]
 refine⟨λi x e=>?_,⟨vs,h',by rw[kz];exact ME _⟩⟩;have hi:i<vs.length:=by rw[<- kz];exact(Mx.mp e).1
 have hi2:i<xs.length:=by rw[<- r.length];exact hi
 have ex:x=.tup [.int (i:Int),xs[i]]:=by
  have:(nj xs)[i]?=some (.tup [.int (i:Int),xs[i]]):=by simp[nj,hi2]
  rw[this]at e;exact(MZ e).symm
 obtain⟨v,ev,rv⟩:=r.get (i:=i) (MG hi2);refine⟨⟨vs,v,h',ev⟩,λw H2 ⟨q,y,e1,e2,e3,e4⟩=>?_⟩;have e5:=e4 vs h';rw[ev]at e5;cases e5;subst e1 e3 ex;refine⟨.inr ⟨_,_,e2,rfl⟩,.tup (.inl (.inl (aG ..))) (.cons (.int _) (.cons ((rv.pres p).new e2) .nil))⟩
def y2(t:W L):W (List D):=λZ p4=>t Z λr Z1=>JA r λd=>match d with
 |.lst xs=>p4 (nj xs) Z1
 |_=>False
theorem tN{k:Nat}{t:W L} (hg:Gl X "enumerate") (hm:X.mg "enumerate"=none) (ha:PL X a t) (hs:starEach [a] X.env=[(false,eval a X.env)]:=by rfl):JL X (.Tuple es k apos) (.Call (.Name "enumerate" p) [a] [] pos) (y2 t):=by
 intro gV s σ H Pr Z p4 I E h
 refine Call_ (k9 I hg hm boot_enumerate (N1 (IT (ae (aC ha) ag hs pos gV s σ H Pr Z (λls Z1=>match ls with
  |[.d (.lst xs)]=>p4 (nj xs) Z1
  |_=>False) I E ?_) λus s1 ⟨vs,H1,ls,Z1,I1,r1,hl,hb,E1,_,q1⟩=>?_) hs rfl))
 .
  show t Z _
  have e:(λr Z1=>JA r λd=>match d with | .lst xs=>p4 (nj xs) Z1|_=>False)=(λr Z1=>JA r λx=>aJ Z1 λxs Z2=>match L.d x::xs with | [.d (.lst xs)]=>p4 (nj xs) Z2|_=>False):=by
   funext r Z1
   cases r with
   |un=>rfl
   |d d=>cases d<;>rfl
   |own=>rfl
   | bx b ls =>
    show dZ (bq (.bx b ls)) _=dZ (bq (.bx b ls)) _
    cases bq (.bx b ls)with
    |none=>rfl
    |some d=>cases d<;>rfl
   |dic b ls=>rfl
  rw[<- e];exact h
 .
  dsimp only at q1;split at q1
  .
   rename_i xs
   cases vs with
   |nil=>exact absurd hl v6
   | cons v vs =>
    have:vs=[]:=by
     have:vs.length=0:=by simpa using hl
     exact NL.mp this
    subst this;obtain⟨_,e1,p1⟩:=ay.head_d (σ:=σ) (Z:=Z1) E1;cases e1
    cases p1 with
    | lst hz rs =>
     obtain⟨u,rfl,ru⟩:=r1.one;cases ru;obtain⟨its,rv,pl,hz'⟩:=I1.list hz.l;refine call_enumerate_list pl.isList λh' hE hI hsz hk=>?_;refine wpAny_pyIter_enum (s:={s1 with heap:=h' }) hE ?_;have E2:ay X.K Pr H1 σ Z1:=ay.tail (σ:=σ) (Z:=Z1) E1;refine⟨s1.heap.objs.size+1,[s1.heap.objs.size+1,s1.heap.objs.size],_,_,H1,_,Z1,rfl,I1.kept (t':=s1.toks) hk,wF _ _ _ (Nat.succ_ne_self _),⟨⟨_,hE⟩,hI⟩,λb hb=>?_,E2,uR hz rs,q1⟩
     have hb':s1.heap.objs.size<=b:=by
      rcases MC.mp hb with rfl|hb
      . exact Nat.le_succ _
      . rw[Nk.mp hb];exact ME _
     exact I1.fpOk hb' (I1.hok.fresh hb')
  . exact q1.elim
end
end L2
namespace L2
open PySem PySem.Spec PyProof.Rows
mutual
noncomputable def J0:D->Bool
 |.lst _=>false
 |.dct _=>false
 |.exc _ _ _=>false
 |.fn _ _=>false
 |.dk _ _=>false
 |.gf _=>false
 |.tup xs=>kJ xs
 |_=>true
noncomputable def kJ:List D->Bool
 |[]=>true
 |x::xs=>J0 x && kJ xs
end
mutual
noncomputable def jh:L->Bool
 |.un=>true
 |.d x=>J0 x
 |.own _ xs=>kJ xs
 |.bx _ ls=>mz ls
 |.dic _ kvs=>kvs.all λp=>J0 p.2
noncomputable def mz:List L->Bool
 |[]=>true
 |l::ls=>jh l && mz ls
end
theorem rO:jh .un=true:=by simp[jh]
theorem DY(x:D):jh (.d x)=J0 x:=by simp[jh]
theorem y3(a:Addr)(xs:List D):jh (.own a xs)=kJ xs:=by simp[jh]
theorem Bz(a:Option Addr)(ls:List L):jh (.bx a ls)=mz ls:=by simp[jh]
theorem y4(a:Addr)(kvs:List (IG×D)):jh (.dic a kvs)=kvs.all λp=>J0 p.2:=by simp[jh]
theorem wG:mz []=true:=by simp[mz]
theorem uS(l:L)(ls:List L):mz (l::ls)=(jh l && mz ls):=by simp[mz]
section
variable{X:Cx}{gV:List (Addr×Obj)}{σ:St}{H:Hp}{s:Shared}
theorem IR.thaw{a:Addr}{o:Obj}{xs:List V}(I:IR X gV σ H s)(h:H a=some (.frz o (.lst xs)))(h0:∀o u,X.H₀ a≠some (.frz o u)):IR X gV σ (IH H a (.lst xs)) s:=by
 have ne:∀b,H b=none->b≠a:=λb n e=>by subst e;rw[h]at n;cases n
 have nt:∀b xs,H b=some (.tup xs)->b≠a:=λb xs n e=>by subst e;rw[h]at n;cases n
 have no:∀b z,H b=some (.own z)->b≠a:=λb z n e=>by subst e;rw[h]at n;cases n
 have nf:∀b o,H b=some (.frz o (.own b))->b≠a:=λb o n e=>by subst e;rw[h]at n;cases n
 have nw:=(I.hok a _ h).2;refine⟨I.ok,I.os,I.bare,⟨I.base.keep,I.base.slot,λb ob e n hx=>?_,I.base.there,λb xs e=>?_,λb ob z e=>?_,λb ps e=>?_⟩,I.loc,I.cell,?_,λx c e=>?_,λp hp=>?_,λb z e=>?_,I.len⟩
 . have q:=I.base.free b ob e n hx;rw[ar (ne b q)];exact q
 . have q:=I.base.tups b xs e;rw[ar (nt b xs q)];exact q
 . have q:=I.base.frzs b ob z e;rw[ar (λy=>by subst y;exact h0 _ _ e)];exact q
 . have q:=I.base.tbls b ps e;rw[ar (λz=>by subst z;rw[h]at q;cases q)];exact q
 . rw[ar (ne _ I.free)];exact I.free
 .
  rcases I.freeC x c e with z|⟨hf,o,z⟩
  . exact .inl (by rw[ar (ne _ z)];exact z)
  . exact .inr ⟨hf,o,by rw[ar (nf _ _ z)];exact z⟩
 . obtain⟨e,n,r⟩:=I.pin p hp;exact⟨e,by rw[ar (ne _ n)];exact n,r⟩
 .
  by_cases hb:b=a
  . subst hb;rw[aG]at e;cases e;exact nw.stay (λc v _ q=>q) (λc q=>by rw[ar (no c _ q)];exact q) (λc xs q=>by rw[ar (nt c xs q)];exact q) λc ob _ _ q=>by rw[ar (nf c ob q)];exact q
  . rw[ar hb]at e;exact(I.hok b z e).stay (λc v _ q=>q) (λc q=>by rw[ar (no c _ q)];exact q) (λc xs q=>by rw[ar (nt c xs q)];exact q) λc ob _ _ q=>by rw[ar (nf c ob q)];exact q
end
def iV(H' H2:Hp)(S:List Addr):Prop:=(∀b,b∉S->H2 b=H' b)/\(∀a∈S,∃o vs,H' a=some (.frz o (.lst vs))/\H2 a=some (.lst vs))
theorem wH{X:Cx}{gV:List (Addr×Obj)}{σ:St}{s:Shared}:∀(S:List Addr){H:Hp},S.Nodup->IR X gV σ H s->(∀a∈S,∃o vs,H a=some (.frz o (.lst vs)))->(∀a∈S,∀o u,X.H₀ a≠some (.frz o u))->∃H2,IR X gV σ H2 s/\iV H H2 S
 |[],H,_,I,_,_=>⟨H,I,λ_ _=>rfl,λ_ h=>by simp at h⟩
 | a::S,H,nd,I,h,h0=>by
  obtain⟨na,nd⟩:=MQ.mp nd;obtain⟨o,vs,ea⟩:=h a Mw;have I1:=I.thaw ea (h0 a Mw)
  obtain⟨H2,I2,T1,T2⟩:=wH S nd I1 (λb hb=>by
   obtain⟨o,us,e⟩:=h b (so _ hb)
   exact⟨o,us,by rw[ar (λz:b=a=>na (by rw[<- z];exact hb))];exact e⟩) λb hb=>h0 b (so _ hb)
  refine⟨H2,I2,λb hb=>?_,λb hb=>?_⟩
  . rw[T1 b (λz=>hb (so _ z)),ar (λz:b=a=>hb (by rw[z];exact Mw))]
  .
   rcases MC.mp hb with rfl|hb
   . exact⟨o,vs,ea,by rw[T1 b na,aG]⟩
   . obtain⟨o',us,e1,e2⟩:=T2 b hb;rw[ar (λz:b=a=>na (by rw[<- z];exact hb))]at e1;exact⟨o',us,e1,e2⟩
section
variable{K:PySem.W.Frag}{H' H2:Hp}{S:List Addr}
mutual
theorem Jx.thaw(T:iV H' H2 S):∀{v:V}{d:D},J0 d=true->Jx K H' v d->Jx K H2 v d
 |_,_,_,.non=>.non
 |_,_,_,.bl b=>.bl b
 |_,_,_,.int i=>.int i
 |_,_,_,.str x=>.str x
 | _,_,h,.tup hs r=>by
  refine .tup ?_ (bf.thaw T (by simpa[J0]using h) r)
  rcases hs with(e|⟨u,e⟩)|e
  .
   exact .inl (.inl (by rw[T.1 _ λz=>by obtain⟨o,vs,e1,_⟩:=T.2 _ z;rw[e1]at e;cases e];exact e))
  .
   exact .inl (.inr ⟨u,by rw[T.1 _ λz=>by obtain⟨o,vs,e1,_⟩:=T.2 _ z;rw[e1]at e;cases e];exact e⟩)
  .
   exact .inr e
 |_,_,h,.lst hs r=>by simp[J0]at h
 |_,_,h,.dct e=>by simp[J0]at h
 |_,_,h,.exc _ _ _ _ _ _ _ _=>by simp[J0]at h
 |_,_,h,.fn _ _ _ _ _ _ _ _ _=>by simp[J0]at h
 |_,_,h,.dk _ _=>by simp[J0]at h
 |_,_,h,.gf _ _ _=>by simp[J0]at h
theorem bf.thaw(T:iV H' H2 S):∀{vs:List V}{ds:List D},kJ ds=true->bf K H' vs ds->bf K H2 vs ds
 |_,_,_,.nil=>.nil
 | _,_,h,.cons r t=>by
  simp only[kJ,MR]at h
  exact .cons (Jx.thaw T h.1 r) (bf.thaw T h.2 t)
end
theorem iV.lst(T:iV H' H2 S){a:Addr}{vs:List V}(h:H' a=some (.lst vs)):a∉S/\H2 a=some (.lst vs):=by
 have n:a∉S:=λz=>by obtain⟨o,us,e,_⟩:=T.2 a z;rw[h]at e;cases e
 exact⟨n,(T.1 a n).trans h⟩
theorem iV.tup(T:iV H' H2 S){a:Addr}{vs:List V}(h:IX K H' a vs):IX K H2 a vs:=by
 rcases h with(e|⟨u,e⟩)|e
 . exact .inl (.inl (by rw[T.1 _ λz=>by obtain⟨o,vs,e1,_⟩:=T.2 _ z;rw[e1]at e;cases e];exact e))
 . exact .inl (.inr ⟨u,by rw[T.1 _ λz=>by obtain⟨o,vs,e1,_⟩:=T.2 _ z;rw[e1]at e;cases e];exact e⟩)
 . exact .inr e
mutual
theorem aT.thaw(T:iV H' H2 S):∀{s:Option V}(l:L),jh l=true->aT K H' s l->aT K H2 s l
 |_,.un,_,_=>by unfold aT;exact True.intro
 | _,.d x,h,q=>by
  unfold aT at q ⊢
  obtain⟨v,e,r⟩:=q
  exact⟨v,e,r.thaw T (by simpa[jh]using h)⟩
 | _,.own a xs,h,q=>by
  unfold aT at q ⊢
  obtain⟨e,vs,ha,r⟩:=q
  exact⟨e,vs,(T.lst ha).2,r.thaw T (by simpa[jh]using h)⟩
 | _,.bx none ls,h,q=>by
  unfold aT at q ⊢
  obtain⟨a,vs,e,ha,r⟩:=q
  exact⟨a,vs,e,T.tup ha,bG.thaw T ls (by simpa[jh]using h) r⟩
 | _,.bx (some a) ls,h,q=>by
  unfold aT at q ⊢
  obtain⟨e,vs,ha,r⟩:=q
  exact⟨e,vs,(T.lst ha).2,bG.thaw T ls (by simpa[jh]using h) r⟩
 | _,.dic a kvs,h,q=>by
  unfold aT at q ⊢
  obtain⟨e,vs,ha,r⟩:=q
  have h':∀p∈kvs,J0 p.2=true:=by simpa[jh]using h
  refine⟨e,vs,?_,Paired.impMem r λp hp q z=>⟨z.1,z.2.thaw T (h' p hp)⟩⟩
  rw[T.1 a λz=>by obtain⟨o,us,e1,_⟩:=T.2 _ z;rw[e1]at ha;cases ha]
  exact ha
theorem bG.thaw(T:iV H' H2 S):∀{vs:List V}(ls:List L),mz ls=true->bG K H' vs ls->bG K H2 vs ls
 |_,[],_,q=>by unfold bG at q ⊢;exact q
 | _,l::ls,h,q=>by
  unfold bG at q ⊢
  simp only[mz,MR]at h
  obtain⟨v,us,e,h1,h2⟩:=q
  exact⟨v,us,e,aT.thaw T l h.1 h1,bG.thaw T ls h.2 h2⟩
end
end
noncomputable def nk:L->Bool
 |.d _=>true
 |l=>jh l
theorem y6:nk .un=true:=by simp[nk,jh]
theorem BA(x:D):nk (.d x)=true:=rfl
theorem wJ(a:Addr)(xs:List D):nk (.own a xs)=kJ xs:=by simp[nk,jh]
theorem wK(a:Addr)(kvs:List (IG×D)):nk (.dic a kvs)=kvs.all λp=>J0 p.2:=by simp[nk,jh]
theorem y7(a:Option Addr)(ls:List L):nk (.bx a ls)=mz ls:=by simp[nk,jh]
noncomputable def cO(i:Nat)(Z:Ev):Bool:=(Z.set i .un).all nk
theorem nQ{K:PySem.W.Frag}{H0 H' H2:Hp}{S:List Addr}(T:iV H' H2 S)(p:m8 H0 H2):∀{σ:St}{Z Z0:Ev},Z.length=Z0.length ->
  (∀(j:Nat)(l:L),Z[j]?=some l->jh l=true∨∃x,l=.d x/\Z0[j]?=some (.d x))->Paired (aT K H0) σ Z0->Paired (aT K H') σ Z->Paired (aT K H2) σ Z
 |[],[],_,_,_,_,_=>.nil
 | s::σ,l::Z,l0::Z0,hl,h,.cons q0 t0,.cons q t=>by
  refine .cons ?_ (nQ T p (by simpa using hl) (λj l e=>h (j+1) l e) t0 t);rcases h 0 l rfl with hh|⟨x,rfl,e⟩
  . exact q.thaw T l hh
  .
   have e:l0=.d x:=by simpa using e
   subst e;exact q0.pres p (.d x) λa ha=>by simp[aW]at ha
 |[],_::_,_,_,_,_,t=>nomatch t
 |_::_,[],_,_,_,_,t=>nomatch t
mutual
theorem aT.lsts{K:PySem.W.Frag}{H:Hp}:∀{s:Option V}(l:L){x:D},aT K H s l->bq l=some x->∀a∈aW l,∃vs,H a=some (.lst vs)
 |_,.un,_,_,_,a,ha=>by simp[aW]at ha
 |_,.d x,_,_,_,a,ha=>by simp[aW]at ha
 |_,.dic _ _,_,_,h,_,_=>by simp[bq]at h
 | _,.own b xs,_,h,_,a,ha=>by
  simp only[aT]at h
  have e:a=b:=by simpa[aW]using ha
  subst e
  obtain⟨_,vs,q,_⟩:=h
  exact⟨_,q⟩
 | _,.bx none ls,_,h,hx,a,ha=>by
  simp only[aT]at h
  simp only[bq,Option.map_eq_some_iff]at hx
  obtain⟨xs,hx,_⟩:=hx
  obtain⟨b,vs,e,_,r⟩:=h
  exact bG.lsts ls r hx a (by simpa[aW]using ha)
 | _,.bx (some b) ls,_,h,hx,a,ha=>by
  simp only[aT]at h
  simp only[bq,Option.map_eq_some_iff]at hx
  obtain⟨xs,hx,_⟩:=hx
  obtain⟨e,vs,q,r⟩:=h
  rcases(by simpa[aW]using ha:a=b∨a∈c7 ls)with z|z
  .
   subst z;exact⟨_,q⟩
  .
   exact bG.lsts ls r hx a z
theorem bG.lsts{K:PySem.W.Frag}{H:Hp}:∀{vs:List V}(ls:List L){xs:List D},bG K H vs ls->bP ls=some xs->∀a∈c7 ls,∃vs,H a=some (.lst vs)
 |_,[],_,_,_,a,ha=>by simp[c7]at ha
 | _,l::ls,_,h,hx,a,ha=>by
  simp only[bG]at h
  obtain⟨v,us,e,h1,h2⟩:=h
  simp only[bP]at hx
  split at hx
  .
   rename_i x1 xs1 e1 e2
   rcases(by simpa[c7]using ha:a∈aW l∨a∈c7 ls)with z|z
   .
    exact aT.lsts l h1 e1 a z
   .
    exact bG.lsts ls h2 e2 a z
  .
   cases hx
end
theorem wL{X:Cx}{gV:List (Addr×Obj)}{σ0:St}{s s1:Shared}{Pr H H1 H':Hp}{σ τ:St}{Z lam:Ev}{i:Nat}{k:L}{x:D}{v:Option V}(I:IR X gV σ0 H s)(E:ay X.K Pr H σ Z)(hi:Z[i]?=some k)(hSa:∀a∈aW k,∃vs,H a=some (.lst vs))(F:lh H H1 (aW k))(hfl:cO i Z=true)
  (I':IR X gV σ0 H' s1) (E1:ay X.K Pr H1 σ (Z.set i (.d x))) (E':ay X.K (a9 H1 (Z.set i (.d x))) H' (τ++σ) (lam++Z.set i (.d x))) (kz:τ.length=lam.length) (hr:lam.all jh=true):∃H2,IR X gV σ0 H2 s1/\ay X.K Pr H2 (τ++σ) (lam++Z):=by
 have hil:i<Z.length:=(Mx.mp hi).1;have prm:=fy hi (l:=.d x) rfl;have hnd:(aW k++owns (Z.set i (.d x))).Nodup:=prm.nodup_iff.mp E.nd;obtain⟨nd1,nd2,nd3⟩:=MX.mp hnd;have hna:∀a∈aW k,a∉owns (Z.set i (.d x)):=λa ha z=>nd3 a ha a z rfl;have hb:∀b u,H1 b=some u->b∉owns (Z.set i (.d x))->H' b=some u:=λb u e hno=>by refine E'.sub b u ?_;unfold a9;rw[if_neg hno];exact e
 have hS:∀a∈aW k,∃o vs,H' a=some (.frz o (.lst vs)):=λa ha=>by obtain⟨vs,e⟩:=hSa a ha;obtain⟨o,eo⟩:=F.2.2 a ha vs e;exact⟨o,vs,hb a _ eo (hna a ha)⟩
 obtain⟨H2,I2,T⟩:=wH (aW k) nd1 I' hS λa ha o u e=>by have z:=I.base.frzs a o u e;obtain⟨vs,q⟩:=hSa a ha;rw[q]at z;cases z
 have back:∀a∈aW k,H2 a=H a:=λa ha=>by obtain⟨vs,e⟩:=hSa a ha;obtain⟨o,eo⟩:=F.2.2 a ha vs e;obtain⟨o',vs',e1,e2⟩:=T.2 a ha;rw[hb a _ eo (hna a ha)]at e1;cases e1;rw[e2,e]
 have P:m8 H H2:=λb u hp e=>by
  have hno:b∉owns Z:=λz=>by obtain⟨ws,hz,mu⟩:=E.at_own z;rw[hz]at e;cases e;exact mu.no hp
  have hnk:b∉aW k:=λz=>hno (prm.mem_iff.mpr (MJ _ z));rw[T.1 b hnk];exact hb b u (F.1 b u hp e) λz=>hno (prm.mem_iff.mpr (MM _ z))
 obtain⟨sl1,sl2⟩:=Paired.unapp kz E'.sl;have ndE:=E'.nd;rw[aE]at ndE;obtain⟨ne1,ne2,ne3⟩:=MX.mp ndE
 have lamS:∀a∈owns lam,a∉aW k/\Pr a=none/\a∉owns (Z.set i (.d x)):=λa ha=>by
  obtain⟨vs,e,mu⟩:=E'.at_own (a:=a) (by rw[aE];exact MJ _ ha);have h1:a∉aW k:=λz=>by obtain⟨o,us,e1,_⟩:=T.2 _ z;rw[e1]at e;cases e;exact mu
  have h3:a∉owns (Z.set i (.d x)):=λz=>ne3 a ha a z rfl;refine⟨h1,?_,h3⟩;have hoff:=E'.off a (by rw[aE];exact MJ _ ha);unfold a9 at hoff;rw[if_neg h3]at hoff
  cases ep:Pr a with
  |none=>rfl
  |some w=>rw[E1.sub a w ep]at hoff;cases hoff
 have slt:Paired (aT X.K H2) σ (Z.set i .un):=by
  have q:Paired (aT X.K H') σ (Z.set i .un):=by have:=(Paired.set_r (b:=L.un) i sl2 λ_ _=>by unfold aT;exact True.intro);rwa [NU]at this
  refine nQ T P (Z0:=Z) v6 (λj l e=>?_) E.sl q;by_cases hj:j=i
  . subst hj;rw[Nj hil]at e;cases e;exact .inl rO
  .
   have h1:=Nq.mp hfl l (List.mem_of_getElem? (i:=j) e);rw[Nz (NH hj)]at e
   cases l with
   |un=>exact .inl rO
   |d y=>exact .inr ⟨y,rfl,e⟩
   |own b ys=>exact .inl h1
   |bx b ls=>exact .inl h1
   |dic b ls=>exact .inl h1
 have slr:Paired (aT X.K H2) τ lam:=Paired.impMem sl1 λl hl s q=>q.thaw T l (Nq.mp hr l hl);refine⟨H2,I2,λb u e=>?_,?_,λb hbm=>?_,Paired.app slr ?_⟩
 .
  have hno:b∉owns Z:=λz=>by have:=E.off b z;rw[e]at this;cases this
  have hnk:b∉aW k:=λz=>hno (prm.mem_iff.mpr (MJ _ z));rw[T.1 b hnk];refine hb b u ?_ λz=>hno (prm.mem_iff.mpr (MM _ z));rw[F.2.1 b hnk];exact E.sub b u e
 .
  rw[aE,MX];refine⟨ne1,E.nd,λc hc d hd z=>?_⟩;subst z;obtain⟨h1,h2,h3⟩:=lamS c hc;rcases ML.mp (prm.mem_iff.mp hd)with z|z
  . exact h1 z
  . exact h3 z
 .
  rw[aE]at hbm;rcases ML.mp hbm with z|z
  . exact(lamS b z).2.1
  . exact E.off b z
 .
  obtain⟨sv,hs,q⟩:=E.slot hi;have:=Paired.set_r (b:=k) i slt λs es=>by rw[hs]at es;cases es;exact q.pres P k back
  rw[NU]at this
  have e2:Z.set i k=Z:=by
   refine List.ext_getElem? λj=>?_;by_cases hj:j=i
   . subst hj;rw[Nj hil,hi]
   . rw[Nz (NH hj)]
  rwa [e2]at this
def J4(o:Option L)(i:Nat)(t:W L)(Z:Ev)(p4:L->Ev->Prop):Prop:=match o with
 |some (.own _ xs)=>cO i Z=true/\t (Z.set i (.d (.lst xs))) λr Z'=>jh r=true/\Z'=Z.set i (.d (.lst xs))/\p4 r Z
 |some (.bx b ls)=>cO i Z=true/\vj b ls λx=>t (Z.set i (.d x)) λr Z'=>jh r=true/\Z'=Z.set i (.d x)/\p4 r Z
 |_=>t Z p4
theorem BB(a:Addr)(xs:List D)(i:Nat)(t:W L)(Z:Ev)(p4:L->Ev->Prop):J4 (some (.own a xs)) i t Z p4=(cO i Z=true/\t (Z.set i (.d (.lst xs))) λr Z'=>jh r=true/\Z'=Z.set i (.d (.lst xs))/\p4 r Z):=(rfl)
theorem DZ(b:Option Addr)(ls:List L)(i:Nat)(t:W L)(Z:Ev)(p4:L->Ev->Prop):J4 (some (.bx b ls)) i t Z p4=(cO i Z=true/\vj b ls λx=>t (Z.set i (.d x)) λr Z'=>jh r=true/\Z'=Z.set i (.d x)/\p4 r Z):=(rfl)
theorem F8(x:D)(i:Nat)(t:W L)(Z:Ev)(p4:L->Ev->Prop):J4 (some (.d x)) i t Z p4=t Z p4:=(rfl)
theorem BC{X:Cx}{gV:List (Addr×Obj)}{s:Shared}{σ:St}{H Pr:Hp}{Z:Ev}{i:Nat}{k:L}{x:D}(I:IR X gV σ H s)(E:ay X.K Pr H σ Z)(hi:Z[i]?=some k)(hx:bq k=some x):∃H1,IR X gV σ H1 s/\ay X.K Pr H1 σ (Z.set i (.d x))/\lh H H1 (aW k)/\∀a∈aW k,∃vs,H a=some (.lst vs):=by obtain⟨sv,hs,sl⟩:=E.slot hi;obtain⟨H1,I1,E1,F⟩:=DA k I (E.outL hi hs) hx;have hil:i<Z.length:=(Mx.mp hi).1;have E2:=E1.back (i:=i) (by rw[Nj hil]) hs;rw[NU]at E2;exact⟨H1,I1,E2,F,sl.lsts k hx⟩
def J5(o:Option L)(i:Nat)(t:W Bool)(Z:Ev)(p4:Bool->Ev->Prop):Prop:=match o with
 |some (.own _ xs)=>cO i Z=true/\t (Z.set i (.d (.lst xs))) λr Z'=>Z'=Z.set i (.d (.lst xs))/\p4 r Z
 |some (.bx b ls)=>cO i Z=true/\vj b ls λx=>t (Z.set i (.d x)) λr Z'=>Z'=Z.set i (.d x)/\p4 r Z
 |_=>t Z p4
def tO(i:Nat)(t:W Bool):W Bool:=λZ p4=>J5 Z[i]? i t Z p4
theorem BD(a:Addr)(xs:List D)(i:Nat)(t:W Bool)(Z:Ev)(p4:Bool->Ev->Prop):J5 (some (.own a xs)) i t Z p4=(cO i Z=true/\t (Z.set i (.d (.lst xs))) λr Z'=>Z'=Z.set i (.d (.lst xs))/\p4 r Z):=(rfl)
theorem D1(b:Option Addr)(ls:List L)(i:Nat)(t:W Bool)(Z:Ev)(p4:Bool->Ev->Prop):J5 (some (.bx b ls)) i t Z p4=(cO i Z=true/\vj b ls λx=>t (Z.set i (.d x)) λr Z'=>Z'=Z.set i (.d x)/\p4 r Z):=(rfl)
theorem Ga(x:D)(i:Nat)(t:W Bool)(Z:Ev)(p4:Bool->Ev->Prop):J5 (some (.d x)) i t Z p4=t Z p4:=(rfl)
theorem BE{X:Cx}{e:Expr}(i:Nat){t:W Bool}(h:PB X e t):PB X e (tO i t):=by
 intro gV s σ H Pr Z p4 I E hw;have go:∀(k:L)(x:D),Z[i]?=some k->bq k=some x->cO i Z=true->(t (Z.set i (.d x)) λr Z'=>Z'=Z.set i (.d x)/\p4 r Z)->wpAny (model X.prog X.w) X.A (isTrue e X.env (eval e X.env)) (EB X gV σ Pr p4) X.xe s:=by intro k x hi hx hfl hw;obtain⟨H1,I1,E1,F,Sa⟩:=BC I E hi hx;refine IT (h gV s σ _ _ _ _ I1 E1.wide hw) λu s1 ⟨H',Z',I',E',eρ,hp⟩=>?_;subst eρ;obtain⟨H2,I2,E2⟩:=wL (τ:=[]) (lam:=[]) (v:=none) I E hi Sa F hfl I' E1 E' rfl rfl;exact⟨H2,Z,I2,E2,hp⟩
 unfold tO J5 at hw;split at hw
 . rename_i a xs hi;exact go _ _ hi rfl hw.1 hw.2
 . rename_i b ls hi;obtain⟨x,hx,hw'⟩:=rF hw.2;exact go _ _ hi hx hw.1 hw'
 . exact h gV s σ H Pr Z p4 I E hw
variable{X:Cx}
variable{X:Cx}
variable{X:Cx}
section
variable{X:Cx}{e a b c:Expr}{es:List Expr}{pos p p2:Pos}{ta:W L}{x y:Str}
def lj:List (JB×W L)->D->W L
 |[],_=>λ_ _=>False
 |[(o,t)],dx=>λZ p4=>t Z λy Z1=>JA y λdy=>o dx dy λr=>vk r λk=>p4 (.d (.bl k)) Z1
 |(o,t)::q::r,dx=>λZ p4=>t Z λy Z1=>JA y λdy=>o dx dy λz=>vk z λk=>if k=true then lj (q::r) dy Z1 p4 else p4 (.d (.bl false)) Z1
def rP(ta:W L)(ls:List (JB×W L)):W L:=λZ p4=>ta Z λx Z1=>JA x λdx=>lj ls dx Z1 p4
inductive rQ (X:Cx):List CmpOp->List Expr->List (JB×W L)->Prop where
 |one {op:CmpOp} {e:Expr} {o:JB} {t:W L} (ho:JC X (compareOp op) o) (h:PL X e t):rQ X [op] [e] [(o,t)]
 |cons {op:CmpOp} {e:Expr} {o:JB} {t:W L} {ops:List CmpOp} {es:List Expr} {ls:List (JB×W L)} (ho:JC X (compareOp op) o) (h:PL X e t) (r:rQ X ops es ls):rQ X (op::ops) (e::es) ((o,t)::ls)
theorem oV{op:CmpOp}{o:JB}{gV:List (Addr×Obj)}{s:Shared}{σ:St}{H Pr:Hp}{Z:Ev}{v:V}{u:Value}{dx:D}{R:Bool->D->Ev->Prop}{t:W L}{Q:Value->Value->Shared->Prop}(ho:JC X (compareOp op) o)(h:PL X e t)
  (I:IR X gV σ H s) (rv:bF v u) (E:ay X.K Pr H (some v::σ) (.d dx::Z)) (ht:t Z λy Z1=>JA y λdy=>o dx dy λr=>vk r λk=>R k dy Z1)
  (hQ:∀u2 s3 w2 dy H3 Z1 k,IR X gV σ H3 s3->bF w2 u2->ay X.K Pr H3 (some w2::σ) (.d dy::Z1)->R k dy Z1->Q u2 (.bool k) s3) :
  wpAny (model X.prog X.w) X.A (eval e X.env) (λb s₁=>wpAny (model X.prog X.w) X.A (compareOp op u b) (λc s₂=>Q b c s₂) X.xe s₁) X.xe s:=by
 refine IT (h gV s σ H _ Z _ I E.tail.wide ht) λu2 s2 q=>?_;obtain⟨y,H2,dy,Z2,I2,r2,E2,q2⟩:=EL.frz (p4:=λdy Z1=>o dx dy λr=>vk r λk=>R k dy Z1) q;have E3:ay X.K Pr H2 (some y::some v::σ) (.d dy::.d dx::Z2):=ay.step (τ:=[some v]) (lam:=[.d dx]) (w:=[some y]) (μ:=[.d dy]) E rfl E2 rfl;obtain⟨_,e1,p1⟩:=E3.head_d;obtain⟨_,e2,p2⟩:=E3.tail.head_d;cases e1;cases e2;have E4:ay X.K Pr H2 σ Z2:=E3.tail.tail;have E5:ay X.K Pr H2 (some y::σ) (.d dy::Z2):=E4.cons_d p1;have E5w:=E5;refine IT (ho gV s2 σ H2 (a9 H2 Z2) Z2 v y u u2 dx dy _ I2 rv r2 E4.wide p2 p1 q2) λw s3 ⟨z,H3,r,I3,rz,E6,pp⟩=>?_;obtain⟨k,rfl,pp⟩:=l8 pp;obtain⟨_,e3,p3⟩:=E6.head_d;cases e3;cases p3;cases rz;have P3:m8 H2 H3:=oH E4 E6.sub;have E7:ay X.K Pr H3 σ Z2:=E4.narrow E6.tail;exact hQ u2 s3 y dy H3 Z2 k I3 r2 (E7.cons_d (p1.pres P3)) pp
theorem y9{ops:List CmpOp}{es:List Expr}{ls:List (JB×W L)}(h:rQ X ops es ls):∀(gV:List (Addr×Obj))(s:Shared)(σ:St)(H Pr:Hp)(Z:Ev)(p4:L->Ev->Prop)(v:V)(u:Value)(dx:D)(pos:Pos),IR X gV σ H s->bF v u->ay X.K Pr H (some v::σ) (.d dx::Z)->lj ls dx Z p4 ->
  wpAny (model X.prog X.w) X.A (compareChain pos u ops (evalEach es X.env)) (EL X gV σ Pr p4) X.xe s:=by
 induction h with
 | one ho h =>
  intro gV s σ H Pr Z p4 v u dx pos I rv E hl;refine chain_last ?_;exact oV (R:=λk _ Z1=>p4 (.d (.bl k)) Z1) (Q:=λ_ c s=>EL X gV σ Pr p4 c s) ho h I rv E hl λu2 s3 w2 dy H3 Z1 k I3 r3 E3 q=>⟨.bl k,H3,_,Z1,I3,rfl,E3.tail.cons_d (.bl k),q⟩
 | @cons op e o t ops es ls ho h r ih =>
  intro gV s σ H Pr Z p4 v u dx pos I rv E hl
  cases r with
  | one ho2 h2 =>
   refine chain_link (oV (R:=λk dy Z1=>if k=true then lj [_] dy Z1 p4 else p4 (.d (.bl false)) Z1) (Q:=λb c s=>wpAny (model X.prog X.w) X.A (truthy c) (λt s₃=>if t then _ else EL X gV σ Pr p4 c s₃) X.xe s) ho h I rv E hl λu2 s3 w2 dy H3 Z1 k I3 r3 E3 q=>?_)
   refine Na ?_
   cases k with
   |false=>exact ite_ff ⟨.bl false,H3,_,Z1,I3,rfl,E3.tail.cons_d (.bl false),q⟩
   |true=>exact ite_tt (ih gV s3 σ H3 Pr Z1 p4 w2 u2 dy pos I3 r3 E3 q)
  | cons ho2 h2 r2 =>
   cases r2 with
   | one ho3 h3 =>
    refine chain_link (oV (R:=λk dy Z1=>if k=true then lj (_::_::_) dy Z1 p4 else p4 (.d (.bl false)) Z1) (Q:=λb c s=>wpAny (model X.prog X.w) X.A (truthy c) (λt s₃=>if t then _ else EL X gV σ Pr p4 c s₃) X.xe s) ho h I rv E hl λu2 s3 w2 dy H3 Z1 k I3 r3 E3 q=>?_)
    refine Na ?_
    cases k with
    |false=>exact ite_ff ⟨.bl false,H3,_,Z1,I3,rfl,E3.tail.cons_d (.bl false),q⟩
    |true=>exact ite_tt (ih gV s3 σ H3 Pr Z1 p4 w2 u2 dy pos I3 r3 E3 q)
   | cons ho3 h3 r3 =>
    refine chain_link (oV (R:=λk dy Z1=>if k=true then lj (_::_::_) dy Z1 p4 else p4 (.d (.bl false)) Z1) (Q:=λb c s=>wpAny (model X.prog X.w) X.A (truthy c) (λt s₃=>if t then _ else EL X gV σ Pr p4 c s₃) X.xe s) ho h I rv E hl λu2 s3 w2 dy H3 Z1 k I3 r3 E3 q=>?_)
    refine Na ?_
    cases k with
    |false=>exact ite_ff ⟨.bl false,H3,_,Z1,I3,rfl,E3.tail.cons_d (.bl false),q⟩
    |true=>exact ite_tt (ih gV s3 σ H3 Pr Z1 p4 w2 u2 dy pos I3 r3 E3 q)
theorem wM{op op':CmpOp}{ops:List CmpOp}{r1 r2:Expr}{rs:List Expr}{ls:List (JB×W L)}(ha:PL X a ta)(h:rQ X (op::op'::ops) (r1::r2::rs) ls)(hm:lastMarks (op::op'::ops) (r1::r2::rs)=false:=by with_unfolding_all rfl):PL X (.Compare a (op::op'::ops) (r1::r2::rs) pos) (rP ta ls):=by intro gV s σ H Pr Z p4 I E ht;refine Compare_chain (IT (ha gV s σ H Pr Z _ I E ht) λu s1 q=>?_) hm;obtain⟨v,H1,dx,Z1,I1,rv,E1,q1⟩:=EL.frz (p4:=λdx Z1=>lj ls dx Z1 p4) q;exact y9 h gV s1 σ H1 Pr Z1 p4 v u dx pos I1 rv E1 q1
noncomputable def rR(x y:Str):Bool:=!decide (y.cps.toList<x.cps.toList)
theorem wN:Jc X (compareOp .LtE) (λx y H Q=>∃i j,x=.str i/\y=.str j/\Q (.bl (rR i j)) H):=by intro gV s σ H x y v u Q I rx ry ⟨i,j,ex,ey,q⟩;subst ex ey;obtain⟨t,rfl⟩:=rx;obtain⟨t',rfl⟩:=ry;refine PySem.P.le_str ⟨.bl _,H,I,rfl,?_⟩;have e:(rR i j)=(!(decide (j.cps.toList<i.cps.toList))):=rfl;rw[e]at q;exact q
def zb:JB:=λx y k=>match x,y with
 |.int i,.int j=>k (.d (.bl (decide (i<=j))))
 |.str i,.str j=>k (.d (.bl (rR i j)))
 |_,_=>False
theorem Ar:JC X (compareOp .LtE) zb:=(JC.or DK (JC.of (op:=λx y k=>∃i j,x=.str i/\y=.str j/\k (.d (.bl (rR i j)))) wN λσ H Pr Z x y dx dy p4 E px py ⟨i,j,e1,e2,h⟩=>by
 subst e1 e2;cases px;cases py
 exact⟨i,j,rfl,rfl,_,E.cons_d (.bl _),h⟩)).imp λx y k h=>by
 cases x<;>cases y<;>first|exact h.elim|exact .inl h|exact .inr ⟨_,_,rfl,rfl,h⟩
theorem rS{prog:Program}{w:World}{A:Around}{ks:List Bool}{us:List Value}(h:us=ks.map Value.bool):TruthOf prog w A (λi v=>us.toArray[i]?=some v) (λi=>ks.getD i true):=λi v s Q E hv hQ=>by
 subst h;rw[List.getElem?_toArray,Nc]at hv
 cases q:ks[i]? with
 |none=>rw[q]at hv;cases hv
 | some k =>
  rw[q]at hv;cases hv;refine Na ?_;have:ks.getD i true=k:=by rw[List.getD_eq_getElem?_getD,q];rfl
  have hQ':Q (ks.getD i true) s:=hQ;rw[this]at hQ';exact hQ'
theorem wO(ks:List Bool):(List.range ks.length).all (λi=>ks.getD i true)=ks.all id:=by
 apply Bool.eq_iff_iff.mpr;simp only[Nq,List.mem_range,id];constructor
 . intro h x hx;obtain⟨i,hi,e⟩:=List.getElem_of_mem hx;have:=h i hi;rw[List.getD_eq_getElem?_getD,MG hi]at this;simpa[e]using this
 . intro h i hi;rw[List.getD_eq_getElem?_getD,MG hi];exact h _ (Oh hi)
theorem nR:∀{ks:List Bool}{us:List Value},bL (ks.map V.bl) us->us=ks.map Value.bool
 |[],_,.nil=>rfl
 | k::ks,_,.cons r t=>by have e:=nR t;subst e;cases r;rfl
theorem qj(hc:X.calm=true):gY X (.builtin "all") (λxs H Q=>∃(p:Addr)(ks:List Bool),xs=[.ref p]/\IW X.K H p (ks.map V.bl)/\Q (.bl (ks.all id)) H):=by
 intro gV s σ H xs us Q I r ⟨p,ks,e,hq,q⟩;subst e;obtain⟨u,rfl,r1⟩:=oA r;cases r1;obtain⟨its,rv,pl,hz⟩:=I.list hq;have e:=nR rv;refine call_all_walk (wpAny_pyIter_list pl.isList ?_);have hne:p≠s.heap.objs.size:=λz=>by obtain⟨o,n,eo,_⟩:=pl;have:=MA eo;rw[z]at this;exact absurd this (Oe _)
 refine⟨s.heap.objs.size,_,_,_,_,_,(λi=>ks.getD i true),rfl,Walks.list (A:=X.A.in1) (I.ok.hd hc) _ p hne its.toArray,⟨⟨_,M4 _ rfl,rfl,rfl⟩,pl.isList.at λo eo=>tu _ eo⟩,rS e,λh' tk hk=>?_⟩;have hl:its.toArray.size=ks.length:=by rw[e];simp
 rw[hl,wO];refine⟨.bl _,H,I.kept (h':=h') (t':=tk) λb o eb=>hk b o (λhm=>?_) (tu _ eb),rfl,q⟩;have e2:b=s.heap.objs.size:=by simpa using hm
 have:=MA eb;rw[e2]at this;exact absurd this (Oe _)
theorem jM{K:PySem.W.Frag}{H:Hp}:∀{vs:List V}{ks:List Bool},bf K H vs (ks.map D.bl)->vs=ks.map V.bl
 |[],[],_=>rfl
 | _::_,k::ks,.cons r t=>by cases r;rw[jM t];rfl
 |[],_::_,r=>nomatch r
 |_::_,[],r=>nomatch r
def D2:JO:=λds k=>∃ks:List Bool,ds=[.lst (ks.map D.bl)]/\k (.d (.bl (ks.all id)))
theorem D3(hc:X.calm=true):eU X (.builtin "all") D2:=eU.of (qj hc) λσ H Pr Z vs ds p4 E ps ⟨ks,e,h⟩=>by
 subst e;obtain⟨v,rfl,r⟩:=lA ps
 cases r with
 | lst hz rs =>
  have e:=jM rs;subst e;exact⟨_,ks,rfl,hz.l,_,E.cons_d (.bl _),h⟩
end
end L2
set_option exponentiation.threshold 2000
namespace L2
open PySem PySem.Spec PyProof.Rows
section
variable{X:Cx}{e a b:Expr}{pos p:Pos}{ta tb:W L}{x y:Str}
mutual
noncomputable def gH:D->Bool
 |.int i=>decide (i.natAbs<2^1900)
 |.tup xs=>ji xs
 |.lst xs=>ji xs
 |_=>true
noncomputable def ji:List D->Bool
 |[]=>true
 |x::xs=>gH x && ji xs
end
theorem BF:(2:Nat)^1900<10^600:=by decide +kernel
theorem qk{i:Int}(h:i.natAbs<2^1900):(PyData.shown (.int i)).length<=601:=by have e:=PySem.int_text_length_le10 (k:=600) x_ (Nat.lt_trans h BF);show(Str.ofString (toString i)).length<=601;rw[PySem.ofString_length];exact e
mutual
theorem lU:∀d:D,gH d=true->(JM d).intsShort 601=true/\(JM d).showable=true
 |.non,_=>⟨rfl,rfl⟩
 |.bl _,_=>⟨rfl,rfl⟩
 |.str _,_=>⟨rfl,rfl⟩
 |.dct _,_=>⟨rfl,rfl⟩
 |.exc _ _ _,_=>⟨rfl,rfl⟩
 |.fn _ _,_=>⟨rfl,rfl⟩
 |.dk _ _,_=>⟨rfl,rfl⟩
 |.gf _,_=>⟨rfl,rfl⟩
 | .int i,h=>by
  have h':i.natAbs<2^1900:=by simpa only[gH,Nr]using h
  refine⟨by simp only[JM,PyData.intsShort,Nr];exact qk h',?_⟩
  simp only[JM,PyData.showable,Nr]
  by_cases h0:i.natAbs=0
  .
   rw[h0];decide
  .
   exact(Nat.log2_lt h0).mpr (Mz h' (Nv x_ x_))
 | .tup xs,h=>by
  obtain⟨h1,h2⟩:=mB xs (by simpa only[gH]using h)
  exact⟨by simpa only[JM,PyData.intsShort]using h1,by simpa only[JM,PyData.showable]using h2⟩
 | .lst xs,h=>by
  obtain⟨h1,h2⟩:=mB xs (by simpa only[gH]using h)
  exact⟨by simpa only[JM,PyData.intsShort]using h1,by simpa only[JM,PyData.showable]using h2⟩
theorem mB:∀ds:List D,ji ds=true->PyData.intsShortAll 601 (fT ds)=true/\PyData.showableAll (fT ds)=true
 |[],_=>⟨rfl,rfl⟩
 | d::ds,h=>by
  simp only[ji,MR]at h
  obtain⟨h1,h2⟩:=lU d h.1
  obtain⟨h3,h4⟩:=mB ds h.2
  exact⟨by simp only[fT,PyData.intsShortAll,h1,h3,Bool.and_self],by simp only[fT,PyData.showableAll,h2,h4,Bool.and_self]⟩
end
structure tP (d:D):Prop where
 ok:JY 40 d=true
 sh:gH d=true
 wt:(JM d).weight<=20000
theorem tP.len{d:D}(h:tP d):(JM d).shown.length<=sizeLine:=by
 have h1:=PyData.shown_le 601 x_ (JM d) (PyData.leavesShort_of_canLay0 601 _ (rN 40 d h.ok).1 (lU d h.sh).1);have h2:=h.wt;have e:sizeLine=16777216:=by decide
 rw[e];omega
def FE(ta tb:W L):W L:=λZ p4=>ta Z λr Z1=>match r with
 |.own _ xs=>tb Z1 λr2 Z2=>kE r2 λj=>(0<=j/\j<=100000)/\xs.length*j.toNat<=sizeLine/\∀p,p4 (.own p (List.replicate j.toNat xs).flatten) Z2
 |_=>False
theorem bf.rep{K:PySem.W.Frag}{H:Hp}{vs:List V}{ds:List D}(r:bf K H vs ds):∀k:Nat,bf K H (List.replicate k vs).flatten (List.replicate k ds).flatten
 |0=>.nil
 | k+1=>by rw[M3,M3,NO,NO];exact r.append (bf.rep r k)
theorem Au(ha:PL X a ta)(hb:PL X b tb):PL X (.BinOp a .Mult b pos) (FE ta tb):=by
 intro gV s σ H Pr Z p4 I E h;refine wpAny_BinOp (IT (ha gV s σ H Pr Z _ I E h) λu s1 ⟨v,H1,r,Z1,I1,r1,E1,q1⟩=>?_);dsimp only at q1;split at q1
 rotate_left
 . exact q1.elim
 rename_i l xs;refine IT (hb gV s1 σ H1 _ Z1 _ I1 E1.tail.wide q1) λu2 s2 ⟨y,H2,r2,Z2,I2,ry,E2,q2⟩=>?_;obtain⟨j,rfl,⟨h1,h2⟩,hz,q2⟩:=cW q2;have E3:ay X.K Pr H2 (some y::some v::σ) (.d (.int j)::.own l xs::Z2):=ay.step (τ:=[some v]) (lam:=[.own l xs]) (w:=[some y]) (μ:=[.d (.int j)]) E1 rfl E2 rfl;obtain⟨_,e1,p1⟩:=E3.head_d;cases e1;cases p1;obtain⟨hs,vs,hl,rs⟩:=E3.ownAt (i:=1) rfl;have ev:v=.ref l:=by simpa using hs
 subst ev;have E4:ay X.K Pr H2 σ Z2:=E3.tail.tail;refine IT (Dx gV s2 σ H2 _ _ u u2 (λz H'=>∃p,H2 p=none/\z=.ref p/\H'=IH H2 p (.lst (List.replicate j.toNat vs).flatten)) I2 r1 ry ⟨l,j,vs,rfl,rfl,hl,xL,xL,by rw[rs.length];exact hz,λp hp=>⟨p,hp,rfl,rfl⟩⟩) λw s3 ⟨z,H3,I3,rz,p,hp,e1,e2⟩=>?_;subst e1 e2;exact⟨.ref p,_,_,Z2,I3,rz,E4.cons_own hp (rs.rep _),q2 p⟩
def Gb:JB:=λx y k=>match x,y with
 |.str a,.str b=>k (.d (.bl (decide (a=b))))
 |_,_=>False
def zd:JB:=λx y k=>match x,y with
 |.str a,.str b=>k (.d (.bl (!decide (a=b))))
 |_,_=>False
theorem D4:JC X (compareOp .NotEq) zd:=JC.of FQ λσ H Pr Z x y dx dy p4 E px py h=>by
 unfold zd at h;split at h
 .
  cases px;cases py;rename_i a b;refine⟨rfl,_,E.cons_d (.bl _),?_⟩;have e:decide (V.str a=V.str b)=decide (a=b):=by simp
  rw[e];exact h
 . exact h.elim
def J6(f:Fl)(o:Option L)(j:Nat)(Z1:Ev)(p4:Fl->Ev->Prop):Prop:=match f with
 | .nx=>(match o with
  |some (.own _ xs)=>p4 .nx (Z1.set j (.d (.lst xs)))
  |_=>p4 .nx Z1)
 |f=>p4 f Z1
theorem BG(a:Addr)(xs:List D)(j:Nat)(Z1:Ev)(p4:Fl->Ev->Prop):J6 .nx (some (.own a xs)) j Z1 p4=p4 .nx (Z1.set j (.d (.lst xs))):=(rfl)
theorem Gc(x:D)(j:Nat)(Z1:Ev)(p4:Fl->Ev->Prop):J6 .nx (some (.d x)) j Z1 p4=p4 .nx Z1:=(rfl)
end
section
variable{X:Cx}{gV:List (Addr×Obj)}{σ:St}{H Pr:Hp}{s:Shared}{Z:Ev}{pos:Pos}
theorem IR.past(I:IR X gV σ H s):(s.heap.objs.size == sysModules)=false:=by have h:mainGlobals<s.heap.objs.size:=(I.mod.glob.keeps I.bk).lt;exact MT.mpr (NH (MO (Nat.lt_trans x_ h)))
def rT(n:Nat):W L:=λZ p4=>p4 (.d (.dct n)) Z
theorem ay.cons_dct{a:Addr}{o:Obj}{kvs:List (IG×V)}(E:ay X.K Pr H σ Z)(h:H a=none):ay X.K Pr (IH H a (.frz o (.dK kvs))) (some (.ref a)::σ) (.d (.dct kvs.length)::Z) :=
 (E.new h).cons_d (.dct aG)
theorem jN:PL X (.Dict [] [] pos) (rT 0):=by intro gV s σ H Pr Z p4 I E hq;have hf:H s.heap.objs.size=none:=I.hok.fresh (ME _);have I1:=I.laid (a:=s.heap.objs.size) (o:=.dK []) (h':=s.heap.push {cls:=.type "dict",data:=.dict #[] }) (t':=s.toks) (λ_ _ q=>tu _ q) (ME _) ⟨NW _,I.past,[],.nil,Heap.DictOf.new s.heap⟩;obtain⟨o,I2⟩:=I1.freezeD aG;rw[q8]at I2;exact wpAny_Dict_empty ⟨.ref s.heap.objs.size,_,.d (.dct 0),Z,I2,rfl,E.cons_dct (kvs:=[]) hf,hq⟩
noncomputable def J8(x:Str):It:=⟨λi _=>i<x.cps.size,λi H v H'=>(∃c,x.cps[i]?=some c/\v=.str ⟨#[c]⟩)/\H'=H,λi _=>x.cps.size<=i⟩
theorem ze{P:Program}{w:World}{K:PySem.W.Frag}{tg:Expr}(it:Addr)(x:Str)(t:Tok):Df P w K tg (J8 x) [it] it (λi h=>h.IsStrIter it "str_ascii_iterator" x t i) where
 mem:=by simp
 obj:=λi h st b hb=>by
  have e:b=it:=by simpa using hb
  subst e;obtain⟨o,e,c,d⟩:=st;exact⟨o,e,λv z=>by rw[d]at z;cases z⟩
 keep:=λi h h' st k=>by obtain⟨o,e,c,d⟩:=st;exact⟨o,k it v6 o e,c,d⟩
 item:=by intro X hP hw hK hc i gV s σ H E I hf st hg;subst hP hw hK;obtain⟨f0,f1,f2,f3,f4,f5⟩:=hf it v6;refine wpAny_pyNext_ascii_item st (Array.getElem?_eq_getElem hg) λh' st' sb=>?_;have I1:IR X gV σ H {s with heap:=h',toks:=s.toks+1}:=I.turned (t':=s.toks+1) (λb o hb e=>(sb.2 b hb).trans e) f0 f1 f3 f4 f5;obtain⟨o,e,c,d⟩:=id st';exact⟨_,rfl,Dg (s:={s with heap:=h',toks:=s.toks+1}) e c d x_ ⟨.str ⟨#[x.cps[i]]⟩,H,I1,⟨_,rfl⟩,⟨⟨_,Array.getElem?_eq_getElem hg,rfl⟩,rfl⟩,st',λb hb=>(hf b hb).1⟩⟩
 done:=by intro X hP hw hK hc i gV s σ H E I hf st hg;subst hP hw hK;obtain⟨f0,f1,f2,f3,f4,f5⟩:=hf it v6;exact wpAny_pyNext_ascii_end (I.ok.hd hc) st (Array.getElem?_eq_none hg) λh' eb=>⟨rfl,I.turned (t':=s.toks) (λb o hb e=>eb b o hb e) f0 f1 f3 f4 f5⟩
 self:=λ_ _ _ _ _ st h=>wpAny_pyIter_striter_ascii st h
noncomputable def lp(x:Str):List D:=x.cps.toList.map λc=>.str ⟨#[c]⟩
theorem wQ{K:PySem.W.Frag}{H:Hp}(x:Str):yM K H (J8 x) (lp x):=λH' p=>by
 refine⟨λi y e=>?_,?_⟩
 .
  unfold lp at e;rw[Nc]at e
  cases hc:x.cps.toList[i]? with
  |none=>rw[hc]at e;cases e
  | some c =>
   rw[hc]at e;have ey:D.str ⟨#[c]⟩=y:=MZ e;subst ey;have hi:i<x.cps.size:=by simpa using(Mx.mp hc).1
   refine⟨hi,λv H2 ⟨⟨c',e1,e2⟩,e3⟩=>?_⟩;have:x.cps[i]?=some c:=by simpa using hc
   rw[this]at e1;cases e1;subst e2 e3;exact⟨.inl rfl,.str _⟩
 . show x.cps.size<=(lp x).length;simp[lp]
def rV(d:D)(k:List D->Prop):Prop:=match d with
 |.str x=>x.cps.all (· < 128)=true/\k (lp x)
 |_=>False
def BH(t:W L):W (List D):=λZ p4=>t Z λr Z1=>JA r λx=>rV x λxs=>p4 xs Z1
theorem BI{e tg:Expr}{t:W L}(h:PL X e t):JL X tg e (BH t):=by
 intro gV s σ H Pr Z p4 I E ht;refine IT (h gV s σ H Pr Z _ I E ht) λu s1 q=>?_;obtain⟨v,H1,x,Z1,I1,r1,E1,q2⟩:=EL.frz (p4:=λx Z1=>rV x λxs=>p4 xs Z1) q;obtain⟨_,e1,p⟩:=E1.head_d;cases e1
 cases p with
 | str y =>
  obtain⟨t,rfl⟩:=r1;obtain⟨ha,q3⟩:y.cps.all (· < 128)=true/\p4 (lp y) Z1:=q2;refine wpAny_pyIter_ascii ha ?_;refine⟨s1.heap.objs.size,[s1.heap.objs.size],_,_,H1,_,Z1,rfl,I1.kept (t':=s1.toks) λb o e=>tu _ e,ze _ y t,⟨_,M4 _ rfl,rfl,rfl⟩,λb hb=>?_,E1.tail,wQ y,q3⟩;have e:b=s1.heap.objs.size:=by simpa using hb
  subst e;exact I1.fpOk (ME _) (I1.hok.fresh (ME _))
 |_=>exact q2.elim
end
structure FX (K:PySem.W.Frag) (mg:Str->Option Value) (g:Str) (st:Stmt) (a:Addr) (fd:FuncData) (P:List Str):Prop where
 f:Jv K g g st a fd
 b:jE K fd P []
 m:mg g=some (.ref a)
noncomputable abbrev J9(g:Str)(st:Stmt)(md:Value)(c:Nat):FuncData:=PySem.W.fnOf g g (g8 st) (cj st) (aB st) .none .none .none md none (.ref c) .none
theorem FX.mk'{K:PySem.W.Frag}{mg:Str->Option Value}{h:Heap}(X:K.In h)(G:h.Ns mainGlobals mg){g:Str}{st:Stmt}{a:Addr}{c:Nat}{md:Value}{P:List Str}(e1:PySem.W.nsIn K mainGlobals g=some (some (.ref a)))
  (e2:K.lookup a=some ⟨.type "function",none,.func (J9 g st md c),#[]⟩) (e3:PySem.W.codeIn K (.ref c) g=true) (e4:PySem.W.keepIn K (.ref a)=true)
  (e5:∀(kV doc pm:Value)(an:Option Addr)(cdv ct:Value)(us:List Value),us.length=P.length->bindArgs (PySem.W.fnOf g g (g8 st) (cj st) (aB st) .none kV doc pm an cdv ct) ⟨us,[]⟩=pure (P.zip us)):FX K mg g st a (J9 g st md c) P :=
 ⟨nL e2 e3 e4,(nL e2 e3 e4).binds e5,PySem.W.mg_of X G e1⟩
section
variable{X:Cx}{k k' n:Nat}{f:Addr}{fd:FuncData}{ps:List Str}{fs:FS}{g:Str}{st:Stmt}{e:Expr}{es:List Expr}{bs:List (Option Nat)}{t:W (List L)}{p pos:Pos}
theorem fA(F:FnOk X.prog X.w X.K X.mg X.base CX0 k f fd ps (spF X.K n fs))(T:FX X.K X.mg g st f fd ps)(hr:fw k' X.A)(ha:Jy X (e::es) bs t)(hk:k<=k':=by decide)(hg:Gl X g:=by rfl)(hn:bs.length=n:=by rfl) (hdb:(g == ("__debug__" : Str))=false:=by decide) (he:starEach (e::es) X.env=(false,eval e X.env)::starEach es X.env:=by rfl) (hpl:(backTo pos (starEach es X.env)).any (·.1)=false:=by rfl) :
  PL X (.Call (.Name g p) (e::es) [] pos) (d3 fs t):=Be F (hr.mono hk) hg T.m T.f.kp T.b A4 ha hn hdb he hpl
theorem aN(F:FnOk X.prog X.w X.K X.mg X.base CX0 k f fd ps (spF X.K n fs))(T:FX X.K X.mg g st f fd ps)(hr:fw k' X.A)(j i:Nat)(ha:Jy X (e::es) bs t)(hk:k<=k':=by decide)(hg:Gl X g:=by rfl)(hj:bs[j]?=some (some i):=by rfl)(hn:bs.length=n:=by rfl) (hdb:(g == ("__debug__" : Str))=false:=by decide) (he:starEach (e::es) X.env=(false,eval e X.env)::starEach es X.env:=by rfl) (hpl:(backTo pos (starEach es X.env)).any (·.1)=false:=by rfl) :
  PL X (.Call (.Name g p) (e::es) [] pos) (aM fs j i t):=yL F (hr.mono hk) hg T.m T.f.kp T.b A4 j i ha hj hn hdb he hpl
end
section
variable{X:Cx}
theorem zg:Jc X (binaryOp .Add) (λx y H Q=>∃l b xs zs,x=.ref l/\y=.ref b/\IX X.K H l xs/\IX X.K H b zs/\xs≠[]/\zs≠[]/\xs.length+zs.length<=sizeLine/\∀p,H p=none->Q (.ref p) (IH H p (.tup (xs++zs)))):=by
 intro gV s σ H x y v u Q I rx ry h;obtain⟨l,b,xs,zs,rfl,rfl,hH,hB,n1,n2,hz,q⟩:=h;cases rx;cases ry;obtain⟨its,r,⟨o,e,c,n,f⟩,z⟩:=I.tuple hH;obtain⟨its2,r2,⟨o2,e2,c2,m,f2⟩,z2⟩:=I.tuple hB;obtain⟨cl,dd,dt,sl⟩:=o;obtain⟨cl2,dd2,dt2,sl2⟩:=o2;simp only at c f c2 f2;subst c f c2 f2;have hl:=r.length;have hl2:=r2.length;have k1:its≠[]:=λe=>n1 (NL.mp (by rw[hl,e];rfl));have k2:its2≠[]:=λe=>n2 (NL.mp (by rw[hl2,e];rfl));refine concat_meets ⟨_,e,rfl⟩ ⟨_,e2,rfl⟩ noFill_tuple_add seq_tuple_add PySem.F.slot_tuple_add PySem.F.entry_tuple_add (PySem.F.args_tuple_add_2 _ _) (tuple_addW2 l b its.toArray its2.toArray n m dd dd2 sl sl2 (by simpa using k1) (by simpa using k2) (by rw[MF,MF];omega)) ⟨e,e2,?_⟩;have ea:its.toArray++its2.toArray=(its++its2).toArray:=by simp
 rw[ea];exact⟨.ref _,IH H s.heap.objs.size (.tup (xs++zs)),I.laid (o:=.tup (xs++zs)) (λ_ _ q=>tu _ q) (ME _) ⟨by rw[MK];omega,its++its2,r.append r2,⟨_,M4 _ rfl,rfl,_,rfl⟩⟩,rfl,q _ I.fresh⟩
def tQ:JB:=λx y k=>match x,y with
 |.tup xs,.tup ys=>xs≠[]/\ys≠[]/\xs.length+ys.length<=sizeLine/\k (.d (.tup (xs++ys)))
 |_,_=>False
theorem BJ:JC X (binaryOp .Add) tQ:=(JC.of zg (op:=λx y k=>∃xs ys,x=.tup xs/\y=.tup ys/\xs≠[]/\ys≠[]/\xs.length+ys.length<=sizeLine/\k (.d (.tup (xs++ys)))) (λσ H Pr Z x y dx dy p4 E px py ⟨xs,ys,e1,e2,m1,m2,z,h⟩=>by
  subst e1 e2
  cases px with
  | tup h1 r1 =>
   cases py with
   | tup h2 r2 =>
    refine⟨_,_,_,_,rfl,rfl,h1,h2,λe=>m1 ?_,λe=>m2 ?_,by rw[r1.length,r2.length];exact z,λp hp=>⟨_,E.cons_tup hp (r1.append r2),h⟩⟩
    . exact NL.mp (by rw[<- r1.length,e];rfl)
    .
     exact NL.mp (by rw[<- r2.length,e];rfl))).imp λx y k h=>by
 unfold tQ at h;split at h
 . exact⟨_,_,rfl,rfl,h⟩
 . exact h.elim
end
mutual
noncomputable def tR:D->Nat
 |.tup xs=>rW xs+1
 |.lst xs=>rW xs+1
 |_=>0
noncomputable def rW:List D->Nat
 |[]=>0
 |x::xs=>max (tR x) (rW xs)
end
theorem tS{n:Nat}:∀{xs:List D},(∀x∈xs,tR x<=n)->rW xs<=n
 |[],_=>NW _
 | y::ys,h=>by simp only[rW];have:=h y Mw;have:=tS (xs:=ys) λx hx=>h x (so _ hx);omega
section
variable{X:Cx}{a:Expr}
theorem wU{h:Heap}{a:Addr}{its:Array Value}(z:IsTup h a its):∃ dd n sl,h.get? a=some ⟨.type "tuple",dd,.seq its n,sl⟩:=by obtain⟨o,e,c,n,d⟩:=z;obtain⟨c',dd,dt,sl⟩:=o;cases c;cases d;exact⟨dd,n,sl,e⟩
theorem wV{gV:List (Addr×Obj)}{σ:St}{H:Hp}{s:Shared}{x:V}{u:Value}{d:D}{b:Bool}{tp:Addr}{its:List Value}{Q:Value->Shared->Prop}{A:Around}{E:Value->Shared->Prop}(I:IR X gV σ H s)(rx:bF x u)(r:Jx X.K H x d)(ht:IsTup s.heap tp its.toArray)
  (e:∀ t,JQ X.K d t->PySem.W.kitAny X.K t its=some b) (h:∀ tk,Q (.bool b) {s with toks:=tk}):wpAny (model X.prog X.w) A (call (.builtin "isinstance") [u,.ref tp]) Q E s:=by
 obtain⟨dd,n,sl,ht⟩:=wU ht
 cases r with
 |non=>cases rx;exact NC PySem.W.kitx_none I.kIn True.intro ht (e _ rfl) (λz=>nomatch z) h
 |bl y=>cases rx;exact NC PySem.W.kitx_bool I.kIn True.intro ht (e _ rfl) (λz=>nomatch z) h
 |int i=>obtain⟨t,rfl⟩:=rx;exact NC PySem.W.kitx_int I.kIn True.intro ht (e _ rfl) (λz=>nomatch z) h
 |str y=>obtain⟨t,rfl⟩:=rx;exact NC PySem.W.kitx_str I.kIn True.intro ht (e _ rfl) (λz=>nomatch z) h
 | lst hz rs =>
  cases rx;obtain⟨its',_,⟨o,n',e1,c1,_,_⟩,_⟩:=I.list hz.l;exact NC PySem.W.kitx_list I.kIn ⟨o,e1,c1⟩ ht (e _ rfl) (λz=>nomatch z) h
 | tup hz rs =>
  cases rx;obtain⟨its',_,⟨o,e1,c1,_⟩,_⟩:=I.tuple hz;exact NC PySem.W.kitx_tuple I.kIn ⟨o,e1,c1⟩ ht (e _ rfl) (λz=>nomatch z) h
 | @dct a' o kvs hz =>
  cases rx;obtain⟨_,_,_,vs,_,o',es,ep,h1,h2,_⟩:=(show cg X.prog X.w H s.heap a' (.frz o (.dK kvs))from I.hok a' _ hz);exact NC PySem.W.kitx_dict I.kIn ⟨o',h1,h2.1⟩ ht (e _ rfl) (λz=>nomatch z) h
 | @exc a o u cc C ns vs ds h1 hv hc hn hs hq hf rs =>
  cases rx;obtain⟨od,Ia,_⟩:=oQ I h1 hc hn hf;obtain⟨LL,cd,S⟩:=c8 hs;exact NC (sW S) I.kIn ⟨_,_,Ia⟩ ht (e _ ⟨C,rfl,hs⟩) (λz=>nomatch z) h
 | fn hl hf hq hc hz hd hv hm r =>
  cases rx;exact NC oG I.kIn ⟨_,(I.hok _ _ hf).1,rfl⟩ ht (e _ rfl) (λz=>nomatch z) h
 | @dk a' o kvs ds hz rs =>
  cases rx;obtain⟨_,_,_,vs,_,o',es,ep,h1,h2,_⟩:=(show cg X.prog X.w H s.heap a' (.frz o (.dK kvs))from I.hok a' _ hz);exact NC PySem.W.kitx_dict I.kIn ⟨o',h1,h2.1⟩ ht (e _ rfl) (λz=>nomatch z) h
 | gf hx hl hk =>
  cases rx;exact NC oG I.kIn ⟨_,I.kIn _ _ hl,rfl⟩ ht (e _ rfl) (λz=>nomatch z) h
end
end L2
namespace L2
open PySem PySem.Spec PyProof.Rows PySem.Builtin.Str
inductive Sk where
 |l|t
noncomputable abbrev Zi:=Sk×Addr×Addr
noncomputable def Zi.ofs(js:List Zi):List Addr:=js.map (·.2.1)
def D5(z O:Addr)(js:List Zi)(h h':Heap):Prop:=∀c o,c∉z::O::Zi.ofs js->h.get? c=some o->h'.get? c=some o
noncomputable def Sk.nm:Sk->String
 |.l=>"list_iterator"
 |.t=>"tuple_iterator"
section
variable{z O:Addr}{js:List Zi}
theorem D5.mono{h h':Heap}(k:D5 z O js h h'){c:Addr}{o:Obj}(hc:c∉z::O::Zi.ofs js)(e:h.get? c=some o):h'.get? c=some o:=k c o hc e
end
end L2
namespace L2
open PySem PySem.Spec PyProof.Rows
end L2
namespace L2
open PySem PySem.Spec PyProof.Rows PySem.W
noncomputable def BK(K:Frag)(C fI:Addr):Bool:=(match K.lookup C with
 | some ⟨.type "type",_,.cls cd,sl⟩=>(match cd.mro,sl.toList with
  |.ref C'::bm,[_,_,_,_,some (.builtin n),_]=>C' == C && n == "ValueError.__new__" && !cd.hasDel && bm.contains (.type "ValueError") && !(bm.contains (.type "AttributeError")) && !(bm.contains (.type "NameError"))
  |_,_=>false)
 |_=>false) && findIn K (.ref C) "__init__" == some (some (.ref fI)) && typeIn K (.ref fI) == some (.type "function")
structure Ka (K:Frag) (C fI:Addr):Prop where
 ex:∃ nm q N bs bm hdct sn sub ab col dd k0 k1 k2 k3 k5,K.lookup C=some (excClassObj nm q C N bs bm hdct sn sub ab col dd k0 k1 k2 k3 k5 "ValueError.__new__")/\bm.contains (.type "ValueError")=true/\bm.contains (.type "AttributeError")=false/\bm.contains (.type "NameError")=false
 init:findIn K (.ref C) "__init__"=some (some (.ref fI))
 fn:typeIn K (.ref fI)=some (.type "function")
theorem D6{K:Frag}{C fI:Addr}(h:BK K C fI=true):Ka K C fI:=by
 unfold BK at h;simp only[MR,On]at h;obtain⟨⟨h,h1⟩,h2⟩:=h;refine⟨?_,h1,h2⟩;split at h
 .
  rename_i dd cd sl ho;split at h
  . rename_i C' bm k0 k1 k2 k3 n k5 hm hs;simp only[MR,On,Bool.not_eq_true']at h;obtain⟨⟨⟨⟨⟨rfl,rfl⟩,hdel⟩,e1⟩,e2⟩,e3⟩:=h;obtain⟨nm,bs,mro,ns,qn,hd,sn,sub,ab,col,Kb⟩:=cd;dsimp only at hm hdel;subst hm hdel;obtain⟨l⟩:=sl;simp only at hs;subst hs;exact⟨nm,qn,ns,bs,bm,hd,sn,sub,ab,col,dd,k0,k1,k2,k3,k5,ho,e1,e2,e3⟩
  . cases h
 . cases h
section
variable{prog:Program}{w:World}{A:Around}{E:Value->Shared->Prop}{h:Heap}{g:Array GenState}{d:Drawn}{t:Nat}{os:OsState}
variable{nm q:Str}{C N:Addr}{bs bm:List Value}{hdct:Bool}{sn:List Str}{sub:List Value}{ab:Bool}{col:Option Bool}{dd:Option Addr}{k0 k1 k2 k3 k5:Option Value}
theorem uT{M:Model}{dm:List Value}{Q:Unit->Shared->Prop} (hC:h.get? C=some (excClassObj nm q C N bs bm hdct sn sub ab col dd k0 k1 k2 k3 k5 "ValueError.__new__")) (hv:bm.contains (.type "ValueError")=true)
  (hq:Q () ⟨h,g,d,t,os⟩):wpAny M A (checkBuiltinCall "ValueError.__new__" ⟨.ref C::dm,[]⟩) Q E ⟨h,g,d,t,os⟩:=by
 have FB:=F.excBase_ValueError;have hb:(Value.ref C::bm).contains (.type "ValueError")=true:=by rw[NS,hv,Bool.or_true]
 have hst:=FB.noStar;simp only[checkBuiltinCall,FB.newKind,FB.newSplit,FB.newRow]
 repeat (first|refine Ni hC ?_|(refine wpAny_isSubtype_exc hC ?_;rw[hb])|refine wpAny_staticBase_exc hC ?_|refine wpAny_madeBy_exc hC ?_|simp only[bne_self_eq_false,Bool.false_eq_true,if_false] | wp_step)
 exact hq
theorem zh{dm:List Value}{R:Result->Shared->Prop} (hC:h.get? C=some (excClassObj nm q C N bs bm hdct sn sub ab col dd k0 k1 k2 k3 k5 "ValueError.__new__")) (hv:bm.contains (.type "ValueError")=true) (ha:bm.contains (.type "AttributeError")=false) (hn:bm.contains (.type "NameError")=false)
  (hz:dm.length<=sizeLine) (hq:R (.ok (.ret (.ref (h.objs.size+1)))) ⟨(h.push {cls:=.type "tuple",data:=.seq dm.toArray}).push {cls:=.ref C,data:=.fields #[.ref h.objs.size,.none,.none,.none,.bool false,.none] },g,d,t,os⟩) :
  codeAny (model prog w) A (.builtin "ValueError.__new__" ⟨.ref C::dm,[]⟩) R ⟨h,g,d,t,os⟩:=by
 have FB:=F.excBase_ValueError;have hends:=FB.ends;have c1:(Value.ref C::bm).contains (.type "ValueError")=true:=by rw[NS,hv,Bool.or_true]
 have c2:(Value.ref C::bm).contains (.type "AttributeError")=false:=by rw[NS,ha]; rfl
 have c3:(Value.ref C::bm).contains (.type "NameError")=false:=by rw[NS,hn]; rfl
 refine codeAny_builtinAt FB.entry ?_;unfold Builtin.«BaseException.__new__»;refine PySem.wpAt_bind ?_;show PySem.wpAt _ _ _ (stack >>= _) _ _ _;refine PySem.wpAt_bind (PySem.wpAt_stack λp below=>PySem.wpAt_of_wpAny ?_)
 wp_walk
 refine PySem.wpAt_of_wpAny ?_;rw[FB.owner]
 repeat (first|with_reducible refine wpAny_madeHere_exc FB.canon hC ?_|with_reducible refine Ni hC ?_|(with_reducible refine wpAny_isSubtype_exc hC ?_;first|rw[c1] | rw[c2] | rw[c3])|wp_step)
 show R _ _;rw[Heap.size_push];exact hq
theorem Gd{K:Frag}{fI:Addr}{dm:List Value}{Q:Value->Shared->Prop}(X:K.In h)(M:Ka K C fI)(hz:dm.length<=sizeLine)
  (hq:∀ h' e,Heap.MadeExcOf h h' e (.ref C) dm->h.objs.size<=e->wpAny (model prog w) (A.under (.builtin "type.__call__" ⟨.ref C::dm,[]⟩)) (call (.ref fI) (.ref e::dm)) (λr s'=>r=.none/\Q (.ref e) s') E ⟨h',g,d,t,os⟩) :
  wpAny (model prog w) A (call (.ref C) dm) Q E ⟨h,g,d,t,os⟩:=by
 obtain⟨nm,q,N,bs,bm,hdct,sn,sub,ab,col,dd,k0,k1,k2,k3,k5,hK,b1,b2,b3⟩:=M.ex;have hC:=X _ _ hK;have FB:=F.excBase_ValueError;have f1:=tc_lookup;have f2:=tc_bind (.ref C);have hT:(⟨h,g,d,t,os⟩:Shared).TypeIs (.ref C) "type":=⟨_,hC,rfl⟩;refine Om (codeAny_of_tree ?_);show wpAny _ _ (callAny (.ref C) _) _ _ _
 repeat (any_goals (first|assumption|with_reducible refine Ni hC ?_|wp_step))
 refine⟨rfl,?_⟩;refine codeAny_call_builtin_at (Code.quiet_builtin _ y_) entry_typeCall (wpAny_check_type_call_sub hC ?_)
 repeat (first|with_reducible refine Ni hC ?_|with_reducible refine wpAny_madeBy_exc hC ?_|wp_step)
 refine codeAny_call_builtin_code (Code.quiet_builtin _ FB.quiet) (uT hC b1 ?_);refine zh hC b1 b2 b3 hz ?_;have kp:∀ b o,h.get? b=some o->((h.push {cls:=.type "tuple",data:=.seq dm.toArray}).push {cls:=.ref C,data:=.fields #[.ref h.objs.size,.none,.none,.none,.bool false,.none] }).get? b=some o:=λb o e=>tu _ (tu _ e);have hC1:=kp _ _ hC;have X1:K.In _:=X.keeps kp;have hg:((h.push {cls:=.type "tuple",data:=.seq dm.toArray}).push {cls:=.ref C,data:=.fields #[.ref h.objs.size,.none,.none,.none,.bool false,.none] }).get? (h.objs.size+1)=some {cls:=.ref C,data:=.fields #[.ref h.objs.size,.none,.none,.none,.bool false,.none] }:=by heap_get
 have cC:(Value.ref C::bm).contains (.ref C)=true:=by simp
 show wpAny _ _ _ _ _ ⟨(h.push {cls:=.type "tuple",data:=.seq dm.toArray}).push {cls:=.ref C,data:=.fields #[.ref h.objs.size,.none,.none,.none,.bool false,.none] },g,d,t,os⟩;unfold isInstance
 repeat (first|with_reducible refine Ni hg ?_|(with_reducible refine wpAny_isSubtype_exc hC1 ?_;rw[cC])|wp_step)
 have L1:=looks_findIn (M:=model prog w) X1 M.init;have L2:=bind_fn (M:=model prog w) X1 (.ref (h.objs.size+1)) M.fn;show wpAny _ _ (typeLookup (.ref C) _) _ _ _;refine L1.at (NT (kS (L2.at ?_)));refine kS (Np (hq _ (h.objs.size+1) ⟨kp,Heap.get?_none_of_le (Nat.le_succ _),h.objs.size,hg,Heap.get?_none_of_le (ME _),tu _ (Heap.get?_push_at rfl rfl)⟩ (Nat.le_succ _)) (λr s' hr=>?_) λ_ _ x=>x);obtain⟨rfl,hQ⟩:=hr
 wp_walk
 exact hQ
end
section
variable{prog:Program}{w:World}{A:Around}{E:Value->Shared->Prop}{s:Shared}{K:Frag}{c:Str}{C L:Addr}{cd:ClassData}{env:Env}
structure Kc (h:Heap) (e:Addr) (cls:Value) (dx T:Option Addr):Prop where
 ex:∃vs sl,h.get? e=some ⟨cls,dx,.fields vs,sl⟩/\1<vs.size/\(match T with
  |none=>vs[1]?=some .none
  |some t=>vs[1]?=some (.ref t)/\t≠e/\∃ot ts,h.get? t=some ot/\ot.data=.fields ts/\ts[3]?=some .none)
theorem D7{x:Sem Value}{Q:Flow->Shared->Prop}(S:lx K c C L cd)(hh:A.handled=none)
  (h:wpAny (model prog w) A x (λv s1=>∃e dx,v=.ref e/\K.In s1.heap/\Kc s1.heap e (.ref C) dx none/\E (.ref e) s1) E s):wpAny (model prog w) A (raiseStmt env (some x) none) Q E s:=by
 unfold raiseStmt;refine kS (Np h (λv s1 h1=>?_) λ_ _ z=>z);obtain⟨e,dx,rfl,X,⟨vs,sl,he,hz,h1⟩,hE⟩:=h1;obtain⟨hp,g,d,tk,os⟩:=s1;have h1:vs[1]?=some .none:=h1;have he:hp.get? e=some ⟨.ref C,dx,.fields vs,sl⟩:=he;obtain⟨oc,odc,slc,hK⟩:=l7 S.cls;have hC:hp.get? C=some ⟨oc,odc,.cls cd,slc⟩:=X _ _ hK;have hoc:oc=.type "type":=by have z:(K.lookup C).map (·.cls)=some (.type "type"):=S.ty;rw[hK]at z;exact MZ z
 subst hoc;have Lb:=S.isT (M:=model prog w) X "BaseException";have eb:(["ValueError","Exception","BaseException","object"]:List String).contains "BaseException"=true:=by decide
 rw[eb]at Lb
 repeat (first|with_reducible refine Ni he ?_|with_reducible refine Ni hC ?_|with_reducible refine Lb.at ?_|with_reducible refine Ob he rfl h1 ?_|wp_step)
 exact wpAny_raiseNew_none hh hE
theorem D8{base:Heap}{outer:List Env}{F e:Addr}{cls:Value}{dx T:Option Addr}{Q:Unit->Shared->Prop}
  (hfr:A.frames=some (env::outer)) (hl:s.heap.FunFrames base (env::outer)) (hf:env.frame=some F) (fl:Kc s.heap e cls dx T)
  (hq:∀h' T',Kc h' e cls dx (some T')->s.heap.objs.size<=T'->(∀b o,b≠e->some b≠T->b∉IM (env::outer)->s.heap.get? b=some o->h'.get? b=some o) ->
   (∀b o,b≠e->some b≠T->s.heap.get? b=some o->∃sl,h'.get? b=some {o with slots:=sl})->Q () {s with heap:=h' }) :
  wpAny (model prog w) A (noteFrame (.ref e) env) (λ_ s2=>wpAny (model prog w) A (setFlight (.ref e) none) Q E s2) E s:=by
 obtain⟨vs,sl,he,hz,hT⟩:=fl;have nof:∀b o vs',s.heap.get? b=some o->o.data=.fields vs'->b∉IM (env::outer):=λb o vs' hb hd hm=>by obtain⟨_,o',ho',hn'⟩:=hl.mem hm;rw[hb]at ho';cases ho';exact hn' _ hd
 have entry:∀(s1:Shared)(vs1:Array Value)(head:Value)(hn:Bool),s1.heap.get? e=some ⟨cls,dx,.fields vs1,sl⟩->1<vs1.size->s1.heap.FunFrames base (env::outer) ->
   (∀b o,b≠e->some b≠T->s.heap.get? b=some o->s1.heap.get? b=some o)->s1.heap.objs.size=s.heap.objs.size->s1={s with heap:=s1.heap} ->
   wpAny (model prog w) A (do let a <- frameOf env;let pl <- entryPlaceOf F hn;let b <- EntryCells.newEntry head a .none (rawInt F) .none pl;setField (.ref e) 1 b) (λ_ s2=>wpAny (model prog w) A (setFlight (.ref e) none) Q E s2) E s1:=by
  intro s1 vs1 head hn he1 hz1 hl1 kp sz es;have nof1:∀b o vs',s1.heap.get? b=some o->o.data=.fields vs'->b∉IM (env::outer):=λb o vs' hb hd hm=>by obtain⟨_,o',ho',hn'⟩:=hl1.mem hm;rw[hb]at ho';cases ho';exact hn' _ hd
  refine kS (wpAny_frameOf_fun hfr hl1 hf λh1 hs1=>?_);refine kS (wpAny_entryPlaceOf λpl hpl=>?_);unfold EntryCells.newEntry newFields;refine kS (NX ?_ (hpl.sizeOk5 _ _ _ _ _))
  generalize hob:({cls:=.type "traceback",dict:=none,data:=.fields ([head,Value.ref F,.none,rawInt F,.none]++(if pl.isEmpty then List.replicate 6 Value.none else pl)).toArray}:Obj)=ob
  have hod:∃ts,ob.data=.fields ts/\3<ts.size:=by subst hob;exact⟨_,rfl,by simp only[MF,MK,MY,NY];omega⟩
  obtain⟨ts,hod,hts⟩:=hod;have he2:h1.get? e=some ⟨cls,dx,.fields vs1,sl⟩:=(hs1.2.1 e (nof1 _ _ _ he1 rfl)).trans he1;have he3:=tu (h:=h1) ob he2;have ne:h1.objs.size≠e:=Nat.ne_of_gt (MA he2);refine wpAny_setField he3 rfl hz1 ?_;have he4:=NI (Obj.mapFields (·.setIfInBounds 1 (Value.ref h1.objs.size))) he3 rfl;have hT4:=(M7 (h1.push ob) (Obj.mapFields (·.setIfInBounds 1 (Value.ref h1.objs.size))) (NH ne)).trans (M4 h1 (by obtain⟨_,_,dt,_⟩:=ob;cases hod;rfl));unfold setFlight;refine kS (Ob he4 rfl (x:=.ref h1.objs.size) (by simp[hz1]) ?_);rw[if_pos (show(Value.ref h1.objs.size != Value.none)=true from by simp)];refine wpAny_setField hT4 hod hts ?_;rw[es];have keep:∀b o,b≠e->h1.get? b=some o->(((h1.push ob).update e (Obj.mapFields (·.setIfInBounds 1 (Value.ref h1.objs.size)))).update h1.objs.size (Obj.mapFields (·.setIfInBounds 3 ((none:Option Addr).elim Value.none λf=>rawInt f)))).get? b=some o:=λb o hb e1=>by rw[M7 _ _ (Nat.ne_of_gt (MA e1)),M7 _ _ (NH hb)];exact tu _ e1
  refine hq _ h1.objs.size ⟨vs1.setIfInBounds 1 (.ref h1.objs.size),sl,?_,by simpa using hz1,by simp[hz1],ne,_,_,NI _ hT4 (Obj.isFreed_of_fields (Obj.data_mapFields hod _)),Obj.data_mapFields hod _,by simp[hts]⟩ ?_ (λb o hb hbT hbf e1=>?_) λb o hb hbT e1=>?_
  . rw[M7 _ _ ne];exact he4
  . rw[hs1.1,sz];exact ME _
  . exact keep b o hb ((hs1.2.1 b hbf).trans (kp b o hb hbT e1))
  . obtain⟨sl',e2⟩:=hs1.2.2 b o (kp b o hb hbT e1);exact⟨sl',keep b _ hb e2⟩
 unfold noteFrame;simp only[hf]
 cases T with
 | none =>
  refine kS (Ob he rfl hT ?_);rw[if_neg (by decide)];exact entry s vs .none _ he hz hl (λ_ _ _ _ e1=>e1) rfl rfl
 | some t =>
  obtain⟨h1,hte,ot,ts,ht,hdt,h3⟩:=hT;refine kS (Ob he rfl h1 ?_);rw[if_pos (show(Value.ref t != Value.none)=true from by simp)];refine kS (Ob ht hdt h3 ?_);rw[if_neg (show ¬((Value.none == rawInt F)=true)from by simp[rawInt])];refine kS (wpAny_setField ht hdt (Array.getElem?_eq_some_iff.mp h3).1 ?_);have oth:∀b,b≠t->(s.heap.update t (Obj.mapFields (·.setIfInBounds 3 Value.none))).get? b=s.heap.get? b:=λb hb=>M7 _ _ (NH hb);refine entry _ vs (.ref t) _ ((oth e (NH hte)).trans he) hz (hl.of_keeps λb o hb hnf=>⟨o,(oth b λq=>?_).trans hb,rfl⟩) (λb o hb hbT e1=>(oth b λq=>hbT (by rw[q])).trans e1) v6 rfl;rw[q,ht]at hb;cases hb;exact hnf ts hdt
theorem Ge{e T:Addr}{cls:Value}{dx:Option Addr}{Q:Unit->Shared->Prop}(fl:Kc s.heap e cls dx (some T))
  (hq:∀h',Kc h' e cls dx (some T)->(∀b o,b≠T->s.heap.get? b=some o->h'.get? b=some o)->Q () {s with heap:=h' }):wpAny (model prog w) A (setFlight (.ref e) none) Q E s:=by
 obtain⟨vs,sl,he,hz,h1,hte,ot,ts,ht,hdt,h3⟩:=fl;have hts:=(Array.getElem?_eq_some_iff.mp h3).1;unfold setFlight;refine kS (Ob he rfl h1 ?_);rw[if_pos (show(Value.ref T != Value.none)=true from by simp)];refine wpAny_setField ht hdt hts (hq _ ⟨vs,sl,?_,hz,h1,hte,_,_,NI _ ht (Obj.isFreed_of_fields (Obj.data_mapFields hdt _)),Obj.data_mapFields hdt _,by simp[hts]⟩ λb o hb e1=>?_)
 . rw[M7 _ _ hte];exact he
 . rw[M7 _ _ (NH hb)];exact e1
end
noncomputable def Kb(H:Hp)(e:Addr):Hp:=λb=>if b=e then none else H b
theorem cq{H:Hp}{e b:Addr}(h:b≠e):Kb H e b=H b:=by unfold Kb;rw[if_neg h]
theorem jO{H:Hp}{e:Addr}:Kb H e e=none:=by unfold Kb;rw[if_pos rfl]
theorem eO{H:Hp}{e b:Addr}(h:H b=none):Kb H e b=none:=by unfold Kb;split;rfl;exact h
section
variable{X:Cx}{gV:List (Addr×Obj)}{σ:St}{H:Hp}{s:Shared}
theorem IR.forget{e:Addr}{φ:Heap->Prop}(I:IR X gV σ H s)(h:H e=some (.ext φ)):IR X gV σ (Kb H e) s:=by
 have ne:∀b o,H b=some o->(∀ψ,o≠.ext ψ)->b≠e:=λb o q n z=>by subst z;rw[h]at q;cases q;exact n _ rfl
 refine⟨I.ok,I.os,I.bare,⟨I.base.keep,I.base.slot,λb o e1 n hx=>eO (I.base.free b o e1 n hx),I.base.there,λb xs q=>?_,λb o u q=>?_,λb ps q=>?_⟩,I.loc,I.cell,eO I.free,λx c q=>(I.freeC x c q).imp eO fun⟨hf,o,z⟩=>⟨hf,o,by rw[cq (ne c _ z λ_ q=>nomatch q)];exact z⟩,λp hp=>?_,λb u q=>?_,I.len⟩
 . have z:=I.base.tups b xs q;rw[cq (ne b _ z λ_ q=>nomatch q)];exact z
 . have z:=I.base.frzs b o u q;rw[cq (ne b _ z λ_ q=>nomatch q)];exact z
 . have z:=I.base.tbls b ps q;rw[cq (ne b _ z λ_ q=>nomatch q)];exact z
 . obtain⟨a1,a2,a3⟩:=I.pin p hp;exact⟨a1,eO a2,a3⟩
 .
  have hb:b≠e:=λz=>by subst z;rw[jO]at q;cases q
  rw[cq hb]at q;exact(I.hok b u q).stay (λc v _ z=>z) (λc z=>by rw[cq (ne c _ z λ_ q=>nomatch q)];exact z) (λc xs z=>by rw[cq (ne c _ z λ_ q=>nomatch q)];exact z) λc ob _ _ z=>by rw[cq (ne c _ z λ_ q=>nomatch q)];exact z
theorem IR.track{e:Addr}{o:HO}(I:IR X gV σ H s)(hn:H e=none)(h0:X.s₀.heap.objs.size<=e)(hL:e≠X.env.locals)(hc:∀x c,X.env.cells.lookup x=some c->c≠e)(hp:∀p∈X.pn++gV,p.1≠e)
  (new:cg X.prog X.w (IH H e o) s.heap e o):IR X gV σ (IH H e o) s:=by
 have ne:∀b u,H b=some u->b≠e:=λb u q z=>by subst z;rw[hn]at q;cases q
 refine⟨I.ok,I.os,I.bare,⟨I.base.keep,I.base.slot,λb u e1 n hx=>?_,I.base.there,λb xs q=>?_,λb u z q=>?_,λb ps q=>?_⟩,I.loc,I.cell,?_,λx c q=>?_,λp hq=>?_,λb u q=>?_,I.len⟩
 . rw[ar (λz=>by subst z;exact absurd (MA e1) (Nat.not_lt.mpr h0))];exact I.base.free b u e1 n hx
 . have z:=I.base.tups b xs q;rw[ar (ne b _ z)];exact z
 . have z:=I.base.frzs b _ _ q;rw[ar (ne b _ z)];exact z
 . have z:=I.base.tbls b ps q;rw[ar (ne b _ z)];exact z
 . rw[ar (NH hL)];exact I.free
 . rw[ar (hc x c q)];exact I.freeC x c q
 . obtain⟨a1,a2,a3⟩:=I.pin p hq;exact⟨a1,by rw[ar (hp p hq)];exact a2,a3⟩
 .
  by_cases hb:b=e
  . subst hb;rw[aG]at q;cases q;exact new
  . rw[ar hb]at q;exact(I.hok b u q).stay (λc v _ z=>z) (λc z=>by rw[ar (ne c _ z)];exact z) (λc xs z=>by rw[ar (ne c _ z)];exact z) λc ob _ _ z=>by rw[ar (ne c _ z)];exact z
end
def Kd(o:HO):Prop:=Fz o/\yB o
open Classical in
noncomputable def jD(H:Hp):Hp:=λb=>match H b with
 |some o=>if Kd o then some o else none
 |none=>none
theorem d9{H:Hp}{b:Addr}(h:H b=none):jD H b=none:=by unfold jD;rw[h]
theorem bo{H:Hp}{b:Addr}{o:HO}(h:H b=some o)(v:Kd o):jD H b=some o:=by unfold jD;rw[h];exact if_pos v
theorem BL{H:Hp}{b:Addr}{o:HO}(h:jD H b=some o):H b=some o/\Kd o:=by
 unfold jD at h;split at h
 .
  rename_i u e;split at h
  . rename_i v;cases h;exact⟨e,v⟩
  . cases h
 . cases h
theorem BM{H:Hp}{b:Addr}{o:HO}(h:H b=some o)(v:¬Kd o):jD H b=none:=by unfold jD;rw[h];exact if_neg v
theorem cg.stayN{P:Program}{w:World}{H H':Hp}{h h':Heap}{a:Addr}:∀{o:HO},yB o->cg P w H h a o->(∀u,h.get? a=some u->h'.get? a=some u)->(∀b xs,H b=some (.tup xs)->H' b=some (.tup xs))->(∀b o q,iP o q->H b=some (.frz o (.own b))->H' b=some (.frz o (.own b)))->cg P w H' h' a o
 |.lst xs,_,x,k,_,_=>by obtain⟨z,its,n,r,e⟩:=x;exact⟨z,its,n,r,k _ e⟩
 |.tup xs,_,x,k,_,_=>by obtain⟨z,its,r,ob,e,c⟩:=x;exact⟨z,its,r,ob,k _ e,c⟩
 |.dK kvs,_,x,k,_,_=>by obtain⟨z,y,vs,r,ob,es,ep,e,c⟩:=x;exact⟨z,y,vs,r,ob,es,ep,k _ e,c⟩
 | .dT kvs,_,x,k,ht,_=>by obtain⟨z,y,xs,r,ob,es,ep,e,c⟩:=x;exact⟨z,y,xs,Paired.mapP r λp q z=>⟨z.1,ht _ _ z.2.1,z.2.2⟩,ob,es,ep,k _ e,c⟩
 |.set S n,_,x,k,_,_=>by obtain⟨ob,es,ep,t,e,c⟩:=x;exact⟨ob,es,ep,t,k _ e,c⟩
 |.ins C dx fs,n,_,_,_,_=>n.elim
 |.own y,_,x,k,_,_=>by obtain⟨ob,e⟩:=x;exact⟨ob,k _ e⟩
 |.xd fs,_,x,k,_,_=>by obtain⟨mA,⟨od,es,ep,e,c⟩,r⟩:=x;exact⟨mA,⟨od,es,ep,k _ e,c⟩,r⟩
 |.rng lo hi,_,x,k,_,_=>by obtain⟨t,u,v,e⟩:=x;exact⟨t,u,v,k _ e⟩
 |.frz ob u,n,x,k,ht,hf=>by obtain⟨e,q⟩:=x;exact⟨k _ e,cg.stayN (o:=u) n q k ht hf⟩
 | .tbl t,_,x,k,_,hf=>by
  obtain⟨ps,e,tr,m⟩:=x
  exact⟨ps,k _ e,tr,λpos cv z=>let ⟨c',oc,a1,a2,a3⟩:=m pos cv z;⟨c',oc,a1,hf _ _ _ a3 a2,a3⟩⟩
 | .met f y,_,x,k,_,_=>by have e:h.get? a=some (PySem.W.methodObj (.ref f) (.ref y)):=x;exact(k _ e:h'.get? a=some (PySem.W.methodObj (.ref f) (.ref y)))
 |.ext φ,_,x,k,_,_=>by obtain⟨p,⟨o,e⟩,st⟩:=x;exact⟨st _ _ p k,⟨o,k _ e⟩,st⟩
theorem rX(xs:List V):Kd (.tup xs):=⟨True.intro,True.intro⟩
theorem wW(q:Str):Kd (.tbl q):=⟨True.intro,True.intro⟩
theorem jP(o:Obj)(y:Addr):Kd (.frz o (.own y)):=⟨True.intro,True.intro⟩
section
variable{X:Cx}{gV:List (Addr×Obj)}{σ:St}{H H':Hp}{s s':Shared}
theorem IR.hide(I:IR X gV σ H s):vM X.prog X.w X.K X.mg X.base X.A X.stack s (jD H):=by have e0:=I.env0;refine⟨e0.frames,e0.mod,λb o e=>⟨(e0.bs b o e).1,d9 (e0.bs b o e).2⟩,e0.bsz,e0.funs,λb hb=>d9 (e0.frf b hb),λb o e=>?_,e0.bare,λx hx c P e=>bo (e0.tbs x hx c P e) (wW _)⟩;obtain⟨e1,v⟩:=BL e;exact cg.stayN v.2 (e0.hok b o e1) (λ_ z=>z) (λc xs z=>bo z (rX xs)) λc ob _ _ z=>bo z (jP ob c)
open Classical in
noncomputable def Ke(H H':Hp):Hp:=λb=>match H' b with
 |some o=>some o
 |none=>H b
theorem cX{b:Addr}{o:HO}(h:H' b=some o):Ke H H' b=some o:=by unfold Ke;rw[h]
theorem iG{b:Addr}(h:H' b=none):Ke H H' b=H b:=by unfold Ke;rw[h]
theorem IR.unhide(I:IR X gV σ H s)(ho:s'.os=s.os)(hg:AllBare s'.gens)(u:Un (IM X.stack) [] (jD H) H' s.heap s'.heap)(hok:II X.prog X.w H' s'.heap) :
  IR X gV σ (Ke H H') s'/\(∀b o,H b=some o->Ke H H' b=some o)/\(∀b o,H' b=some o->jD H b=none->H b=none):=by
 have gone:∀b o,H b=some o->¬Kd o->jD H b=none/\H' b=none:=λb o e v=>by
  have z:=BM e v
  obtain⟨ob,hb⟩:∃ob,s.heap.get? b=some ob:=by
   cases q:s.heap.get? b with
   |some ob=>exact⟨ob,rfl⟩
   | none =>
    exfalso
    cases o with
    |lst xs=>obtain⟨_,_,_,_,e⟩:=I.hok b _ e;rw[q]at e;cases e
    |tup xs=>exact v (rX xs)
    |dK kvs=>obtain⟨_,_,_,_,o,_,_,e,_⟩:=I.hok b _ e;rw[q]at e;cases e
    |dT kvs=>obtain⟨_,_,_,_,o,_,_,e,_⟩:=I.hok b _ e;rw[q]at e;cases e
    |set S n=>obtain⟨o,_,_,_,e,_⟩:=I.hok b _ e;rw[q]at e;cases e
    |ins C dx fs=>obtain⟨_,_,_,e,_⟩:=I.hok b _ e;rw[q]at e;cases e
    |own y=>obtain⟨_,e⟩:=I.hok b _ e;rw[q]at e;cases e
    |xd fs=>obtain⟨_,⟨_,_,_,e,_⟩,_⟩:=I.hok b _ e;rw[q]at e;cases e
    |rng lo hi=>obtain⟨_,_,_,e⟩:=I.hok b _ e;rw[q]at e;cases e
    |frz ob u=>obtain⟨e,_⟩:=I.hok b _ e;rw[q]at e;cases e
    |tbl t=>exact v (wW t)
    |met f y=>have e:=(show s.heap.get? b=some _ from I.hok b _ e);rw[q]at e;cases e
    |ext φ=>obtain⟨_,⟨_,e⟩,_⟩:=I.hok b _ e;rw[q]at e;cases e
  exact⟨z,u.free b ob hb z v6⟩
 have ext:∀b o,H b=some o->Ke H H' b=some o:=λb o e=>by
  by_cases v:Kd o
  .
   have z:=bo e v
   cases o with
   |tup xs=>exact cX (u.tups b xs z)
   |frz ob w=>exact cX (u.frzs b ob w z)
   |tbl t=>exact cX (u.tbls b t z)
   |_=>exact v.1.elim
  . rw[iG (gone b o e v).2];exact e
 have back:∀b o,H' b=some o->jD H b=none->H b=none:=λb o e z=>by
  cases q:H b with
  |none=>rfl
  | some o' =>
   by_cases v:Kd o'
   . rw[bo q v]at z;cases z
   . rw[(gone b o' q v).2]at e;cases e
 have hok2:II X.prog X.w (Ke H H') s'.heap:=λb o e=>by
  unfold Ke at e;split at e
  . rename_i o' q;cases e;exact(hok b _ q).stay (λc w _ z=>z) (λc z=>cX z) (λc xs z=>cX z) λc ob _ _ z=>cX z
  .
   rename_i q
   have nv:¬Kd o:=λv=>by
    have z:=bo e v
    cases o with
    |tup xs=>rw[u.tups b xs z]at q;cases q
    |frz ob w=>rw[u.frzs b ob w z]at q;cases q
    |tbl t=>rw[u.tbls b t z]at q;cases q
    |_=>exact v.1.elim
   have keepT:∀c o',H c=some o'->¬Kd o'->∀w,s.heap.get? c=some w->s'.heap.get? c=some w:=λc o' e' v' w hw=>by refine u.keep c w hw (gone c o' e' v').1 (λhm=>?_) v6;have:=I.stkFree c hm;rw[e']at this;cases this
   refine(I.hok b o e).stay (λc w hc z=>?_) (λc z=>ext c _ z) (λc xs z=>ext c _ z) λc ob _ _ z=>ext c _ z;rcases hc with rfl|hc
   . exact keepT c o e nv w z
   . exact keepT c _ hc (λv=>v.1) w z
 refine⟨I.call' (ch:=[]) ho ⟨λb o e n hf hx=>u.keep b o e (d9 n) hf hx,λb o e n hf hx=>u.slot b o e (d9 n) hf hx,λb o e n hx=>?_,u.there,λb xs e=>ext b _ e,λb o w e=>ext b _ e,λb ps e=>ext b _ e⟩ hok2 hg (λb z=>absurd z v6),ext,back⟩;rw[iG (u.free b o e (d9 n) hx)];exact n
end
section
variable{K:Frag}{Pr H H':Hp}{σ:St}{Z:Ev}
theorem ay.exten(E:ay K Pr H σ Z)(h:∀b o,H b=some o->H' b=some o):ay K Pr H' σ Z :=
 ⟨λb o e=>h b o (E.sub b o e),E.nd,E.off,Paired.impMem E.sl λl hl s q=>q.pres (λb u _ e=>h b u e) l λa e=>by
  obtain⟨vs,e,_⟩:=E.at_own (eM.mpr ⟨l,hl,e⟩)
  rw[h _ _ e,e]⟩
end
mutual
theorem Jx.hid{K:Frag}{H:Hp}:∀{v:V}{d:D},Jx K H v d->Jx K (jD H) v d
 |_,_,.non=>.non
 |_,_,.bl b=>.bl b
 |_,_,.int i=>.int i
 |_,_,.str x=>.str x
 | _,_,.tup h r=>.tup (by
   rcases h with(h|⟨o,h⟩)|h
   .
    exact .inl (.inl (bo h (rX _)))
   .
    exact .inl (.inr ⟨o,bo h ⟨True.intro,True.intro⟩⟩)
   .
    exact .inr h) (bf.hid r)
 | _,_,.lst h r=>.lst (by
   rcases h with⟨o,h⟩|h
   .
    exact .inl ⟨o,bo h ⟨True.intro,True.intro⟩⟩
   .
    exact .inr h) (bf.hid r)
 |_,_,.dct h=>.dct (bo h ⟨True.intro,True.intro⟩)
 | _,_,.exc h hv hc hn hs hq hf r=>.exc (bo h ⟨True.intro,hv⟩) hv hc hn hs hq (by
   rcases hf with hf|⟨d,od,e,h,l⟩
   .
    exact .inl hf
   .
    exact .inr ⟨d,od,e,bo h ⟨True.intro,True.intro⟩,l⟩) (bf.hid r)
 |_,_,.fn hl hf hq hc hz hd hv hm r=>.fn hl (bo hf (jP _ _)) (bo hq (jP _ _)) hc (bo hz (jP _ _)) hd hv hm (Jx.hid r)
 |_,_,.dk h r=>.dk (bo h ⟨True.intro,True.intro⟩) (bf.hid r)
 |_,_,.gf h ho hk=>.gf h ho hk
theorem bf.hid{K:Frag}{H:Hp}:∀{vs:List V}{ds:List D},bf K H vs ds->bf K (jD H) vs ds
 |_,_,.nil=>.nil
 |_,_,.cons h t=>.cons (Jx.hid h) (bf.hid t)
end
theorem Gf:typeOf (.type "ValueError")=pure (.type "type"):=kitMeta_of y_
theorem Gg:Manifest.isStub "ValueError"=false:=by decide +kernel
theorem Gh:handedIn (.builtin "ValueError.__init__")=true:=by decide +kernel
theorem wX(K:Frag):findCls K (.type "ValueError") (.type "type") "__init__"=some (.val (.builtin "ValueError.__init__")):=by kernel_rfl
theorem Kc.at{h h':Heap}{e:Addr}{cls:Value}{dx:Option Addr}(f:Kc h e cls dx none)(k:∀o,h.get? e=some o->h'.get? e=some o):Kc h' e cls dx none:=by obtain⟨vs,sl,he,hz,h1⟩:=f;exact⟨vs,sl,k _ he,hz,h1⟩
noncomputable def XO(e:Addr)(cls:Value)(dx:Option Addr):HO:=.ext λh=>Kc h e cls dx none
noncomputable def XD(d:Addr)(fs:List (Str×V)):HO:=.ext λh=>∃mA,h.Ns1 d mA/\(∀f,qY (fs.lookup f) (mA f))/\PySem.Within mA (fs.map (·.1))
theorem XO.ok{P:Program}{w:World}{H:Hp}{h:Heap}{e:Addr}{cls:Value}{dx:Option Addr}(f:Kc h e cls dx none):cg P w H h e (XO e cls dx):=by obtain⟨vs,sl,he,hz,h1⟩:=f;exact⟨⟨vs,sl,he,hz,h1⟩,⟨_,he⟩,λh1 h2 p k=>p.at k⟩
theorem XD.ok{P:Program}{w:World}{H:Hp}{h:Heap}{d:Addr}{fs:List (Str×V)}{mA:Str->Option Value}(n:h.Ns1 d mA)(r:∀f,qY (fs.lookup f) (mA f))(wi:PySem.Within mA (fs.map (·.1))):cg P w H h d (XD d fs) :=
 ⟨⟨mA,n,r,wi⟩,let ⟨o,_,_,e,_⟩:=n;⟨o,e⟩,λh1 h2 ⟨mA,n,r⟩ k=>⟨mA,n.at k,r⟩⟩
theorem D9{H:Hp}{a:Addr}{o:HO}(h:H a=some o):IH H a o=H:=by
 funext b;unfold IH;split
 . rename_i e;rw[e,h]
 . rfl
section
variable{X:Cx}{gV:List (Addr×Obj)}{σ:St}{H:Hp}{s:Shared}
theorem IR.xo{e:Addr}{cls:Value}{dx:Option Addr}(I:IR X gV σ H s)(h:H e=some (XO e cls dx)):Kc s.heap e cls dx none:=(I.hok e _ h).1
theorem IR.xd{d:Addr}{fs:List (Str×V)}(I:IR X gV σ H s)(h:H d=some (XD d fs)):∃mA,s.heap.Ns1 d mA/\(∀f,qY (fs.lookup f) (mA f))/\PySem.Within mA (fs.map (·.1)):=(I.hok d _ h).1
theorem Kc.inst{h:Heap}{e C:Addr}{dx T:Option Addr}(f:Kc h e (.ref C) dx T)(hd:∀d,dx=some d->∃o,h.get? d=some o):∃vs sl od,InstAt h e ⟨.ref C,dx,.fields vs,sl⟩ C od/\1<vs.size:=by
 obtain⟨vs,sl,he,hz,_⟩:=f
 cases dx with
 |none=>exact⟨vs,sl,none,⟨he,rfl,rfl,trivial⟩,hz⟩
 | some d =>
  obtain⟨o,ho⟩:=hd d rfl;exact⟨vs,sl,some o,⟨he,rfl,rfl,ho⟩,hz⟩
end
section
variable{X:Cx}{a b:Expr}{p1 p2 pos:Pos}{t:TA}
def tT(K:Frag)(t:TA):TE:=λσ H Q=>t σ H λvs H1=>∃e tx c C L cd,vs=[.ref e,tx]/\H1 e=some (XO e (.ref C) none)/\lx K c C L cd/\Q .non H1
theorem zi{pl:Sem Bool} (hg:Gl X "ValueError") (hm:X.mg "ValueError"=none) (ha:PA X [a,b] t) (hs:starEach [a,b] X.env=(false,eval a X.env)::starEach [b] X.env:=by rfl) (hpl:(backTo pos (starEach [b] X.env)).any (·.1)=false:=by rfl)
  (ht:eval (.Call (.Attribute (.Name "ValueError" p1) "__init__" p2) [a,b] [] pos) X.env=(do
   let ov <- eval (.Name "ValueError" p1) X.env
   standAt p2.atName
   let (f,first) <- holding [ov] (getMethod ov "__init__" pl)
   callWith pos f first (backTo pos (starEach [a,b] X.env)) (backToKw pos (keywordEach [] X.env))):=by rfl) :
  PE X (.Call (.Attribute (.Name "ValueError" p1) "__init__" p2) [a,b] [] pos) (tT X.K t):=by
 intro gV s σ H Q I h;refine methodCall_KW (k9 I hg hm (show bootBuiltins "ValueError"=some (.type "ValueError") by decide +kernel) ?_) ht;obtain⟨m,F⟩:=I.fr;have k4:=wX X.K;refine @method_type _ _ _ _ _ X.K _ _ _ _ _ _ _ _ F I.ok.mod.kin Gf Gg k4 Gh ?_;have I1:=I.tok (s.toks+1);have hA:=ha pos gV _ σ H _ I1 h;rw[hs]at hA ⊢;refine Calls.callWith_builtin (by show(false ||(backTo pos (starEach [b] X.env)).any (·.1))=false;rw[hpl]<;>rfl) (Calls.evalArgs_plain (IT hA λus s2 ⟨vs,H2,I2,r,e,tx,c,C,L,cd,ev,he,S,q⟩=>?_));subst ev;obtain⟨u1,u2,rfl,r1,r2⟩:=uz r;cases r1;obtain⟨vs,sl,od,Ia,hz⟩:=(I2.xo he).inst (λd z=>nomatch z);refine F0 S I2.kIn Ia rfl xL λt'=>⟨.non,H2,?_,rfl,q⟩;have hx1:=tu (h:=s2.heap) {cls:=.type "tuple",data:=.seq #[u2] } Ia.at_;have z:=I2.write (x:=e) (e:=e) (o:=XO e (.ref C) none) (h':=(s2.heap.push {cls:=.type "tuple",data:=.seq #[u2] }).update e (Obj.mapFields (·.setIfInBounds 0 (.ref s2.heap.objs.size)))) (t':=t') (by rw[he]; exact True.intro) (.inl rfl) (λb u hb e1=>(M7 _ _ (NH hb)).trans (tu _ e1)) ⟨_,NI _ hx1 rfl⟩ (XO.ok ?_)
 . rw[D9 he]at z;exact z
 . obtain⟨vs',sl',he',hz',h1'⟩:=I2.xo he;have e2:=Ia.at_.symm.trans he';cases e2;refine⟨vs.setIfInBounds 0 (.ref s2.heap.objs.size),sl,NI _ hx1 rfl,by simpa using hz',?_⟩;show(vs.setIfInBounds 0 _)[1]?=some .none;rw[Array.getElem?_setIfInBounds_ne x_];exact h1'
noncomputable def FF(K:Frag):Sp:=λvs H Q _=>∃e tx c C L cd,vs=[.ref e,tx]/\H e=some (XO e (.ref C) none)/\lx K c C L cd/\Q .non H
structure wY (K:Frag) (mg:Str->Option Value) (L fL:Addr) (fd:FuncData) (st:Stmt):Prop where
 m:mg "LoadError"=some (.ref L)
 rd:readsIn K L (.type "type")=true
 sg:specialIn K (.ref L) "__getattribute__"=some (some (.builtin "type.__getattribute__"))
 fc:findCls K (.ref L) (.type "type") "__init__"=some (.val (.ref fL))
 f:Jv K "__init__" "LoadError.__init__" st fL fd
 b:jE K fd ["self","text"] []
theorem zj{pl:Sem Bool}{k L fL:Addr}{fd:FuncData}{st:Stmt}(T:wY X.K X.mg L fL fd st) (F:FnOk X.prog X.w X.K X.mg X.base CX0 k fL fd ["self","text"] (FF X.K)) (hr:fw k X.A) (hg:Gl X "LoadError") (ha:PA X [a,b] t)
  (hs:starEach [a,b] X.env=(false,eval a X.env)::starEach [b] X.env:=by rfl) (hpl:(backTo pos (starEach [b] X.env)).any (·.1)=false:=by rfl)
  (ht:eval (.Call (.Attribute (.Name "LoadError" p1) "__init__" p2) [a,b] [] pos) X.env=(do
   let ov <- eval (.Name "LoadError" p1) X.env
   standAt p2.atName
   let (f,first) <- holding [ov] (getMethod ov "__init__" pl)
   callWith pos f first (backTo pos (starEach [a,b] X.env)) (backToKw pos (keywordEach [] X.env))):=by rfl) :
  PE X (.Call (.Attribute (.Name "LoadError" p1) "__init__" p2) [a,b] [] pos) (tT X.K t):=by
 intro gV s σ H Q I h;refine methodCall_KW (fV I hg T.m ?_) ht;refine method_cls I.kIn T.sg (cls_read I.kIn T.rd T.fc (MB ?_));have k3:handedIn (.ref fL)=true:=rfl;show wpAny _ _ (handedOut (.ref fL)) _ _ _;rw[handedOut_of k3];refine MB ?_;have I1:=I.tok (s.toks+1);refine callWith_K (h₀:=X.base) I.ok.mod.kin T.f.kp (IT (ha pos gV _ σ H _ I1 h) λus s1 ⟨vs,H1,I2,r,q⟩=>⟨I2.kIn,?_⟩) hs hpl;refine vN F hr T.b .nil A4 I2 r ?_;rw[M9];exact q
def BN(K:Frag)(ta tv:TE)(f:Str):TS:=λD σ H=>tv σ H λy H1=>ta σ H1 λx H2=>∃e c C L cd,x=.ref e/\lx K c C L cd/\findIn K (.ref C) f=some none /\
 ((H2 e=some (XO e (.ref C) none)/\∀d,H2 d=none->d≠e->D.nx σ (IH (IH H2 d (XD d [(f,y)])) e (XO e (.ref C) (some d)))) ∨
  ∃d fs,H2 e=some (XO e (.ref C) (some d))/\H2 d=some (XD d fs)/\fs.lookup f=none/\fs.length<=900/\D.nx σ (IH H2 d (XD d (fs++[(f,y)]))))
theorem nS{α:Type}{f g:Str}{y:α}:∀{fs:List (Str×α)},fs.lookup f=none->(fs++[(f,y)]).lookup g=if g=f then some y else fs.lookup g
 | [],_=>by
  by_cases h:g=f
  . subst h;simp
  . have:(g == f)=false:=MT.mpr h;simp[List.lookup,this,h]
 | (k,v)::fs,h=>by
  have h':(f == k)=false/\fs.lookup f=none:=by
   cases e:(f == k)with
   |true=>simp[List.lookup,e]at h
   |false=>exact⟨rfl,by simpa[List.lookup,e]using h⟩
  have ih:=nS (g:=g) (y:=y) h'.2
  cases e:(g == k)with
  | true =>
   have:g≠f:=λz=>by subst z;rw[h'.1]at e;cases e
   simp[List.lookup,e,this]
  | false =>
   simp only[Ol,List.lookup,e];exact ih
theorem wZ{o value:Expr}{f:Str}{pos':Pos}{ta tv:TE}(ha:PE X o ta)(hv:PE X value tv)(hs:swapsWith value (some (.Attribute o f pos')) pos.line X.env=pure false:=by rfl):PS X (.Assign [.Attribute o f pos'] value pos) (BN X.K ta tv f):=by
 intro gV s σ H D I h;refine plainObj_wpAny_Assign_Attribute (IT (hv gV s σ H _ I h) λu s1 ⟨y,H1,I1,ry,q⟩=>IT (ha gV s1 σ H1 _ I1 q) λov s2 ⟨x,H2,I2,rx,e,c,C,L,cd,ex,S,hf,q2⟩=>?_) hs;subst ex;obtain rfl:ov=Value.ref e:=rx;rcases q2 with⟨he,q2⟩|⟨d,fs,he,hd,hl,hz,q2⟩
 .
  obtain⟨vs,sl,od,Ia,hz⟩:=(I2.xo he).inst (λd z=>nomatch z);have dn:H2 s2.heap.objs.size=none:=I2.hok.fresh (ME _);have dne:s2.heap.objs.size≠e:=Nat.ne_of_gt (MA Ia.at_);refine yD S I2.kIn Ia rfl hf λh' tk e1 n1 k1=>⟨σ,_,?_,q2 s2.heap.objs.size dn dne⟩
  have hd1:cg X.prog X.w (IH (IH H2 s2.heap.objs.size (XD s2.heap.objs.size [(f,y)])) e (XO e (.ref C) (some s2.heap.objs.size))) h' s2.heap.objs.size (XD s2.heap.objs.size [(f,y)]):=by
   refine XD.ok n1 (λg=>?_) λg hg=>?_
   .
    by_cases z:g=f
    . subst z;simp[qY,ry]
    . have:(g == f)=false:=MT.mpr z;simp[List.lookup,this,z,qY]
   .
    by_cases z:g=f
    . simp[z]
    . simp[z]at hg
  obtain⟨vs0,sl0,he0,hz0,h10⟩:=I2.xo he;have e2:=Ia.at_.symm.trans he0;cases e2;have ho1:cg X.prog X.w (IH (IH H2 s2.heap.objs.size (XD s2.heap.objs.size [(f,y)])) e (XO e (.ref C) (some s2.heap.objs.size))) h' e (XO e (.ref C) (some s2.heap.objs.size)):=XO.ok ⟨vs,sl,e1,hz0,h10⟩;have tr:∀b o,H2 b=some o->b≠e->IH (IH H2 s2.heap.objs.size (XD s2.heap.objs.size [(f,y)])) e (XO e (.ref C) (some s2.heap.objs.size)) b=some o:=λb o q hb=>by rw[ar hb,ar (aQ q dn)];exact q
  have nx:∀b o,H2 b=some o->(∀ψ,o≠.ext ψ)->b≠e:=λb o q n z=>by subst z;rw[he]at q;cases q;exact n _ rfl
  refine I2.un ⟨λb o hb n _ _=>k1 b o (λz=>by subst z;rw[he]at n;cases n) hb,λb o hb n _ _=>⟨o.slots,k1 b o (λz=>by subst z;rw[he]at n;cases n) hb⟩,λb o hb n _=>?_,λb o hb _=>?_,λb xs q=>tr b _ q (nx b _ q λ_ z=>nomatch z),λb o' u' q=>tr b _ q (nx b _ q λ_ z=>nomatch z),λb ps q=>tr b _ q (nx b _ q λ_ z=>nomatch z)⟩ λb o q=>?_
  . rw[ar (λz=>by subst z;rw[he]at n;cases n),ar (MO (MA hb))];exact n
  .
   by_cases z:b=e
   . subst z;exact⟨_,e1⟩
   . exact⟨o,k1 b o z hb⟩
  .
   by_cases hb:b=e
   . subst hb;rw[aG]at q;cases q;exact ho1
   .
    by_cases hb2:b=s2.heap.objs.size
    . subst hb2;rw[ar hb,aG]at q;cases q;exact hd1
    .
     rw[ar hb,ar hb2]at q;refine(I2.hok b o q).stay (λc v hc z=>k1 c v ?_ z) (λc z=>tr c _ z (nx c _ z λ_ z=>nomatch z)) (λc xs z=>tr c _ z (nx c _ z λ_ z=>nomatch z)) λc ob _ _ z=>tr c _ z (nx c _ z λ_ z=>nomatch z);rcases hc with rfl|hc
     . exact hb
     . exact nx c _ hc λ_ z=>nomatch z
 .
  obtain⟨mA,nA,rA,wA⟩:=I2.xd hd;obtain⟨od,_,_,hod,_⟩:=id nA;obtain⟨vs,sl,od',Ia,hz'⟩:=(I2.xo he).inst (λd' z=>by cases z;exact⟨od,hod⟩);refine yE S I2.kIn Ia rfl nA wA (by rw[MD];omega) hf λh' tk n1 sb=>⟨σ,_,?_,q2⟩
  refine I2.write (x:=d) (e:=d) (by rw[hd];exact True.intro) (.inl rfl) (λb u hb e1=>(sb.2 b hb).trans e1) (let ⟨o,_,_,e1,_⟩:=n1;⟨o,e1⟩) (XD.ok n1 (λg=>?_) λg hg=>?_)
  .
   rw[nS hl];by_cases z:g=f
   . subst z;simp[qY,ry]
   . rw[if_neg z,if_neg z];exact rA g
  .
   by_cases z:g=f
   . subst z;simp
   . rw[if_neg z]at hg;have:=wA g hg;simp at this ⊢;exact .inl this
end
noncomputable def Ea(K:Frag)(ns:List Str):Sp:=λvs H Q _=>∃e vals c C L cd,vs=.ref e::vals/\H e=some (XO e (.ref C) none)/\lx K c C L cd/\(∀f∈ns,findIn K (.ref C) f=some none)/\vals.length=ns.length /\
 ∀d,H d=none->d≠e->Q .non (IH (IH H d (XD d (ns.zip vals))) e (XO e (.ref C) (some d)))
def Kg(K:Frag):TS:=AN (tT K (vL (yo 0) (vL (yo 1) FV)))
def Kh(K:Frag)(x:V)(f g:Str):TS:=FK (AN (tT K (vL (yo 0) (vL (tC x) FV)))) (FK (BN K (yo 0) (yo 1) f) (BN K (yo 0) (yo 2) g))
theorem BO{K:Frag}{vs:List V}{H:Hp}{Q:VK}{E:XK}{a b:Str}(h:FF K vs H Q E):Kg K {nx:=λ_ H'=>Q .non H',rt:=Q} (kC [a,b] vs) H:=by obtain⟨e,tx,c,C,L,cd,rfl,he,S,q⟩:=h;exact⟨_,rfl,_,rfl,e,tx,c,C,L,cd,rfl,he,S,q⟩
theorem BP{K:Frag}{vs:List V}{H:Hp}{Q:VK}{E:XK}{a b b2 f g:Str}{x:V}(hfg:f≠g)(h:Ea K [f,g] vs H Q E):Kh K x f g {nx:=λ_ H'=>Q .non H',rt:=Q} (kC [a,b,b2] vs) H:=by
 obtain⟨e,vals,c,C,L,cd,rfl,he,S,hf,hl,q⟩:=h
 match vals,hl with
 | [v,v2],_ =>
  refine⟨_,rfl,e,x,c,C,L,cd,rfl,he,S,_,rfl,_,rfl,e,c,C,L,cd,rfl,S,hf f v6,.inl ⟨he,λd hd hde=>?_⟩⟩;refine⟨_,rfl,_,rfl,e,c,C,L,cd,rfl,S,hf g v6,.inr ⟨d,[(f,v)],aG,?_,?_,v6,?_⟩⟩
  . rw[ar hde,aG]
  . have:(g == f)=false:=MT.mpr (NH hfg);simp[List.lookup,this]
  .
   have z:=q d hd hde
   have e1:IH (IH (IH H d (XD d [(f,v)])) e (XO e (.ref C) (some d))) d (XD d ([(f,v)]++[(g,v2)]))=IH (IH H d (XD d ([f,g].zip [v,v2]))) e (XO e (.ref C) (some d)):=by
    funext b
    unfold IH;by_cases h1:b=d
    . subst h1;rw[if_pos rfl,if_neg hde,if_pos rfl];rfl
    .
     rw[if_neg h1];by_cases h2:b=e
     . rw[if_pos h2,if_pos h2]
     . rw[if_neg h2,if_neg h2,if_neg h1,if_neg h1]
   show Q .non _;rw[e1];exact z
structure Xc where
 c:Str
 ns:List Str
 ds:List D
def uU(K:Frag)(H:Hp)(cls:Value)(dx:Option Addr)(x:Xc):Prop:=∃C vs,cls=.ref C/\g9 K x.c C=true/\(∀f∈x.ns,findIn K (.ref C) f=some none)/\XF H dx x.ns vs/\bf K H vs x.ds
theorem uU.ext{K:Frag}{H H':Hp}{cls:Value}{dx:Option Addr}{x:Xc}(f:uU K H cls dx x)(h:∀b o,H b=some o->H' b=some o):uU K H' cls dx x:=by obtain⟨C,vs,e,s,fq,a,r⟩:=f;exact⟨C,vs,e,s,fq,a.pres λb o _ q=>h b o q,r.pres λb o _ q=>h b o q⟩
noncomputable def Ki(P:Program)(w:World):Jj:=λouter H s E e s'=>∃a cls dx T H',e=.ref a/\s'.os=s.os/\AllBare s'.gens/\Un (IM outer) [] H H' s.heap s'.heap/\II P w H' s'.heap/\Kc s'.heap a cls dx (some T)/\H' a=none/\H' T=none /\
 s.heap.objs.size<=a/\s.heap.objs.size<=T/\E cls dx H'
section
variable{X:Cx}{gV:List (Addr×Obj)}{σ:St}{H:Hp}{s:Shared}
theorem II.there{P:Program}{w:World}{H:Hp}{h:Heap}(x:II P w H h){b:Addr}{o:HO}(e:H b=some o):∃u,h.get? b=some u:=by
 have lt:=x.lt e
 cases o with
 |lst xs=>obtain⟨_,_,_,_,e⟩:=x b _ e;exact⟨_,e⟩
 |tup xs=>obtain⟨_,_,_,o,e,_⟩:=x b _ e;exact⟨_,e⟩
 |dK kvs=>obtain⟨_,_,_,_,o,_,_,e,_⟩:=x b _ e;exact⟨_,e⟩
 |dT kvs=>obtain⟨_,_,_,_,o,_,_,e,_⟩:=x b _ e;exact⟨_,e⟩
 |set S n=>obtain⟨o,_,_,_,e,_⟩:=x b _ e;exact⟨_,e⟩
 |ins C dx fs=>obtain⟨_,_,_,e,_⟩:=x b _ e;exact⟨_,e⟩
 |own y=>obtain⟨_,e⟩:=x b _ e;exact⟨_,e⟩
 |xd fs=>obtain⟨_,⟨_,_,_,e,_⟩,_⟩:=x b _ e;exact⟨_,e⟩
 |rng lo hi=>obtain⟨_,_,_,e⟩:=x b _ e;exact⟨_,e⟩
 |frz ob u=>obtain⟨e,_⟩:=x b _ e;exact⟨_,e⟩
 |tbl t=>obtain⟨_,e,_⟩:=x b _ e;exact⟨_,e⟩
 |met f y=>exact⟨_,(show h.get? b=some _ from x b _ e)⟩
 |ext φ=>obtain⟨_,⟨_,e⟩,_⟩:=x b _ e;exact⟨_,e⟩
structure Kj (X:Cx) (gV:List (Addr×Obj)) (b:Addr):Prop where
 s0:X.s₀.heap.objs.size<=b
 loc:b≠X.env.locals
 cel:∀x c,X.env.cells.lookup x=some c->c≠b
 pin:∀p∈X.pn++gV,p.1≠b
theorem IR.newer(I:IR X gV σ H s){b:Addr}(h:s.heap.objs.size<=b):Kj X gV b:=by
 refine⟨MH I.sz h,λz=>?_,λx c e z=>?_,λp hp z=>?_⟩
 . have:=I.lt;rw[<- z]at this;exact absurd this (Nat.not_lt.mpr h)
 . obtain⟨v,o,ho,_⟩:=I.cell x c e;have:=MA ho;rw[z]at this;exact absurd this (Nat.not_lt.mpr h)
 . have:=MA (I.pin p hp).1;rw[z]at this;exact absurd this (Nat.not_lt.mpr h)
structure tU (X:Cx) (gV:List (Addr×Obj)) (H:Hp) (s:Shared) (a:Addr) (cls:Value) (dx T:Option Addr):Prop where
 fly:Kc s.heap a cls dx T
 na:H a=none
 nt:∀t,T=some t->H t=none
 wa:Kj X gV a
 wt:∀t,T=some t->Kj X gV t
def Kk(X:Cx)(xp:Xc->Prop):Prop:=∀(gV:List (Addr×Obj))(σ:St)(H:Hp)(s:Shared)(a:Addr)(cls:Value)(dx T:Option Addr)(x:Xc),IR X gV σ H s->tU X gV H s a cls dx T->uU X.K H cls dx x->xp x->X.xe (.ref a) s
end
theorem gh{P:Program}{w:World}{K:Frag}{mg:Str->Option Value}{base:Heap}{N:List Str}{qual:Str}{scope:Scope}{f:Addr}{cd:Value}{A:Around}{outer:List Env}{s:Shared}{H:Hp}{E:XK}{xp:Xc->Prop}
  (h:∀cls dx H' x,uU K H' cls dx x->xp x->E cls dx H'):Kk (yi (Ki P w) P w K mg base N qual scope f cd A outer s H E) xp:=by
 intro gV σ H1 s1 a cls dx T x I R F q;show wpAny (model P w) _ (leaving _ (.ref a)) _ _ s1;unfold leaving;have hl:=I.stack;refine kS (D8 (F:=s.heap.objs.size) I.ok.frames hl rfl R.fly λh' T' fl hT k1 k2=>?_);have neL:∀b o,s.heap.get? b=some o->b≠s.heap.objs.size:=λb o e=>MO (MA e);have neA:∀b o,s.heap.get? b=some o->b≠a:=λb o e=>MO (Mz (MA e) R.wa.s0);have neT:∀b o,s.heap.get? b=some o->some b≠T:=λb o e z=>absurd (MA e) (Nat.not_lt.mpr (R.wt b z.symm).s0);have tra:∀b o,H1 b=some o->b≠a/\some b≠T/\b∉IM (envOfC qual scope s.heap.objs.size f cd::outer):=λb o e=>by refine⟨λz=>(by subst z;rw[R.na]at e;cases e),λz=>(by rw[R.nt b z.symm]at e;cases e),λz=>?_⟩;have:=I.stkFree b z;rw[e]at this;cases this
 refine⟨a,cls,dx,T',H1,rfl,I.os,I.bare,⟨λb o e n hf hx=>?_,λb o e n hf hx=>?_,λb o e n hx=>I.base.free b o e n hx,λb o e hx=>?_,I.base.tups,I.base.frzs,I.base.tbls⟩,λb o e=>?_,fl,R.na,?_,R.wa.s0,MH I.sz hT,h cls dx H1 x F q⟩
 .
  refine k1 b o (neA b o e) (neT b o e) (λhm=>?_) (I.base.keep b o e n hf hx);rcases MC.mp (show b∈s.heap.objs.size::IM outer from hm)with z|z
  . exact neL b o e z
  . exact hf z
 . obtain⟨sl,e1⟩:=I.base.slot b o e n hf hx;obtain⟨sl',e2⟩:=k2 b _ (neA b o e) (neT b o e) e1;exact⟨sl',e2⟩
 . obtain⟨o',e1⟩:=I.base.there b o e hx;obtain⟨sl',e2⟩:=k2 b _ (neA b o e) (neT b o e) e1;exact⟨_,e2⟩
 .
  refine(I.hok b o e).stay (λc v hc z=>?_) (λ_ z=>z) (λ_ _ z=>z) λ_ _ _ _ z=>z
  have ht:∃o',H1 c=some o':=by
   rcases hc with rfl|hc
   . exact⟨o,e⟩
   . exact⟨_,hc⟩
  obtain⟨o',ho'⟩:=ht;obtain⟨t1,t2,t3⟩:=tra c o' ho';exact k1 c v t1 t2 t3 z
 . exact I.hok.fresh hT
abbrev Kl:=List D->(L->Prop)->(Xc->Prop)->Prop
noncomputable def Km(K:Frag)(n:Nat)(fs:Kl):Sp:=λvs H Q E=>vs.length=n/\∃ds p4 xp,bf K H vs ds/\fs ds p4 xp/\(∀v H' r,ay K H H' [some v] [r]->p4 r->Q v H')/\∀cls dx H' x,uU K H' cls dx x->xp x->E cls dx H'
def nT(fs:Kl)(xp:Xc->Prop)(t:W (List L)):W L:=λZ p4=>t Z λls Z1=>yK ls λds=>fs ds (λr=>p4 r Z1) xp
theorem ay.ds{K:Frag}{H:Hp}:∀{vs:List V}{ds:List D},bf K H vs ds->Paired (aT K H) (vs.map some) (ds.map .d)
 |_,_,.nil=>.nil
 |_,_,.cons h t=>.cons ⟨_,rfl,h⟩ (ay.ds t)
section
variable{X:Cx}{k n:Nat}{f:Addr}{fd:FuncData}{ps:List Str}{fs:Kl}{x:Str}{p pos:Pos}{e:Expr}{es:List Expr}{bs:List (Option Nat)}{t:W (List L)}{xp:Xc->Prop}
theorem Eb{gV:List (Addr×Obj)}{σ:St}{H Pr:Hp}{s:Shared}{Z:Ev}{us:List Value}{vs:List V}{ds:List D}{p4:L->Ev->Prop}{Ex:Value->Shared->Prop}(F:FnOk X.prog X.w X.K X.mg X.base (Ki X.prog X.w) k f fd ps (Km X.K n fs))(hr:fw k X.A)(hb:jE X.K fd ps [])(hl:vs.length=n)
  (I:IR X gV σ H s) (E:ay X.K Pr H σ Z) (r:bL vs us) (rs:bf X.K H vs ds) (h:fs ds (λr=>p4 r Z) xp)
  (hx:∀(s':Shared)(H':Hp)(a:Addr)(cls:Value)(dx T:Option Addr)(y:Xc),IR X gV σ H' s'->ay X.K Pr H' σ Z->tU X gV H' s' a cls dx T->uU X.K H' cls dx y->xp y->Ex (.ref a) s') :
  wpAny (model X.prog X.w) X.A (call (.ref f) us) (EL X gV σ Pr p4) Ex s:=by
 have hsp:Km X.K n fs vs (jD H) (λv H'=>∃r,ay X.K (jD H) H' [some v] [r]/\p4 r Z) (λcls dx H'=>∃y,uU X.K H' cls dx y/\xp y) :=
  ⟨hl,ds,_,xp,rs.hid,h,λv H' r E1 p=>⟨r,E1,p⟩,λcls dx H' y q1 q2=>⟨y,q1,q2⟩⟩
 have hl':us.length=ps.length:=by rw[<- r.length];exact F.len _ _ _ _ hsp
 have bt:=hb s us I.kIn (by rw[M9];exact hl');rw[M9]at bt;refine Om (codeAny_mono (F.run X.A X.stack s (jD H) ⟨us,[]⟩ us vs _ _ hr I.hide bt r hsp) λres s' hq=>?_)
 cases res with
 | error e =>
  obtain⟨a,cls,dx,T,H',rfl,os,bare,un,hok,fl,na,nt,za,zt,y,q1,q2⟩:=hq;obtain⟨I2,ext,back⟩:=I.unhide os bare un hok;refine hx s' _ a cls dx (some T) y I2 (E.exten ext) ⟨fl,?_,λt et=>?_,I.newer za,λt et=>by cases et;exact I.newer zt⟩ (q1.ext λb o q=>cX q) q2
  . rw[iG na];exact I.hok.fresh za
  . cases et;rw[iG nt];exact I.hok.fresh zt
 | ok fl =>
  cases fl with
  | ret u =>
   obtain⟨v,H',os,bare,un,hok,rv,r,E2,p⟩:=hq;obtain⟨I2,ext,back⟩:=I.unhide os bare un hok;have E3:=E.exten ext
   have fr:∀a∈aW r,H a=none/\∃vs,H' a=some vs/\A5 vs:=λa ha=>by
    have ha':a∈owns [r]:=by rw[aH];exact MJ _ ha
    obtain⟨vs',e1,m1⟩:=E2.at_own ha';exact⟨back a _ e1 (E2.off a ha'),vs',e1,m1⟩
   refine⟨v,_,r,Z,I2,rv,⟨E3.sub,?_,λa ha=>?_,.cons ?_ E3.sl⟩,p⟩
   . rw[aH];have n1:=E2.nd;rw[aH]at n1;refine MX.mpr ⟨(MX.mp n1).1,E3.nd,λa ha b hb z=>?_⟩;subst z;obtain⟨vs',e1,_⟩:=E.at_own hb;rw[(fr a ha).1]at e1;cases e1
   .
    rw[aH]at ha;rcases ML.mp ha with z|z
    .
     cases q:Pr a with
     |none=>rfl
     |some o=>have:=E.sub a o q;rw[(fr a z).1]at this;cases this
    . exact E3.off a z
   .
    have sl:=E2.sl
    cases sl with
    | cons q t =>
     exact q.pres (λb o _ e=>cX e) r λa ha=>by obtain⟨_,vs',e1,_⟩:=fr a ha;rw[cX e1,e1]
  |next=>exact False.elim hq
  |brk=>exact False.elim hq
  |cont=>exact False.elim hq
theorem zk(F:FnOk X.prog X.w X.K X.mg X.base (Ki X.prog X.w) k f fd ps (Km X.K n fs))(hr:fw k X.A)(hg:Gl X x)(hm:X.mg x=some (.ref f))(hk:PySem.W.keepIn X.K (.ref f)=true)(hb:jE X.K fd ps [])(hx:Kk X xp)
  (ha:Jy X (e::es) bs t) (hn:bs.length=n) (hdb:(x == ("__debug__" : Str))=false:=by decide) (he:starEach (e::es) X.env=(false,eval e X.env)::starEach es X.env:=by rfl) (hpl:(backTo pos (starEach es X.env)).any (·.1)=false:=by rfl) :
  PL X (.Call (.Name x p) (e::es) [] pos) (nT fs xp t):=by
 intro gV s σ H Pr Z p4 I E0 h;refine Nw (fV I hg hm ?_ hdb);refine N3 (h₀:=X.base) I.ok.mod.kin hk (IT (ha pos gV s σ H Pr Z _ I E0 h) λus s1 ⟨vs,H1,ls,Z1,I1,r,hl,hbl,E1,hv,q⟩=>⟨I1.kIn,?_⟩) he hpl;obtain⟨ds,rfl,q1⟩:=hG q;have kz:vs.length=ds.length:=by simpa using hl
 exact Eb (p4:=p4) F hr hb (hbl.trans hn) I1 (E1.drop (by simp[kz])) r (hJ kz E1) q1 λs' H' a cls dx T y I2 _ R q1 q2=>hx gV σ H' s' a cls dx T y I2 R q1 q2
noncomputable def uV(ns:List Str)(ds:List D):List D:=if ns=[]then[]else ds
def jQ(c:Str)(ns:List Str)(xp:Xc->Prop)(t:W (List L)):W Fl:=λZ _=>t Z λls _=>yK ls λds=>(ns=[]∨ds.length=ns.length)/\ds.length<=8/\xp ⟨c,ns,uV ns ds⟩
structure XT (K:Frag) (mg:Str->Option Value) (c:Str) (C fI:Addr) (fd:FuncData) (ps:List Str) (ns:List Str):Prop where
 m:mg c=some (.ref C)
 s:g9 K c C=true
 mkx:Ka K C fI
 b:jE K fd ps []
 kp:PySem.W.keepIn K (.ref C)=true
 fn:∀f∈ns,findIn K (.ref C) f=some none
def w4(K:Frag)(sp:Sp)(C:Addr)(ns:List Str)(vs:List V):Prop:=∀(e:Addr)(H:Hp)(Q:VK),H e=some (XO e (.ref C) none) ->
 (∀H2 dx,(∀b,b≠e->∀o,H b=some o->H2 b=some o)->H2 e=some (XO e (.ref C) dx)->((ns=[]/\dx=none)∨∃d,dx=some d/\d≠e/\H2 d=some (XD d (ns.zip vs))/\H d=none/\ns.length=vs.length)->Q .non H2)->sp (.ref e::vs) H Q E0
theorem BQ{K:Frag}{c:Str}{C:Addr}{ns:List Str}{vs:List V}(h:g9 K c C=true)(hf:∀f∈ns,findIn K (.ref C) f=some none)(hl:vs.length=ns.length):w4 K (Ea K ns) C ns vs:=λe H Q he q=>by
 obtain⟨L,cd,S⟩:=c8 h;refine⟨e,vs,c,C,L,cd,rfl,he,S,hf,hl,λd hd hde=>q _ (some d) (λb hb o z=>?_) aG (.inr ⟨d,rfl,hde,?_,hd,hl.symm⟩)⟩
 . rw[ar hb,ar (aQ z hd)];exact z
 . rw[ar hde,aG]
theorem w5{c:Str}{C fI:Addr}{ns:List Str}{sp:Sp}{gV:List (Addr×Obj)}{σ:St}{H:Hp}{s:Shared}{us:List Value}{vs:List V}{Q:Value->Shared->Prop}(T:XT X.K X.mg c C fI fd ps ns)(F:FnOk X.prog X.w X.K X.mg X.base CX0 k fI fd ps sp)(hi:w4 X.K sp C ns vs)(hr:fw (k+1) X.A)(hz:us.length<=sizeLine)
  (I:IR X gV σ H s) (r:bL vs us)
  (hq:∀(s':Shared)(H':Hp)(e:Addr)(dx:Option Addr),IR X gV σ H' s'->(∀b o,H b=some o->H' b=some o)->H' e=none->s.heap.objs.size<=e->Kc s'.heap e (.ref C) dx none->((ns=[]/\dx=none)∨∃d od,dx=some d/\H' d=some (.frz od (.xd (ns.zip vs)))/\ns.length=vs.length)->Q (.ref e) s') :
  wpAny (model X.prog X.w) X.A (call (.ref C) us) Q X.xe s:=by
 obtain⟨hh,g,d0,tk,os⟩:=s;refine Gd I.kIn T.mkx hz λh' e hm hsz=>?_;obtain⟨tt,he,_,_⟩:=hm.there;have hn:H e=none:=I.hok.fresh hsz;have I1:IR X gV σ (IH H e (XO e (.ref C) none)) ⟨h',g,d0,tk,os⟩:=I.laid (t':=tk) hm.keeps hsz (XO.ok ⟨_,_,he,v6,rfl⟩);have hsp:=hi e (IH H e (XO e (.ref C) none)) (λv H2=>v=.non/\∃dx,(∀b,b≠e->∀o,IH H e (XO e (.ref C) none) b=some o->H2 b=some o)/\H2 e=some (XO e (.ref C) dx)/\((ns=[]/\dx=none)∨∃d,dx=some d/\d≠e/\H2 d=some (XD d (ns.zip vs))/\IH H e (XO e (.ref C) none) d=none/\ns.length=vs.length)) aG λH2 dx a b c=>⟨rfl,dx,a,b,c⟩;have r2:bL (V.ref e::vs) (Value.ref e::us):=.cons rfl r;have hl:(Value.ref e::us).length=ps.length:=by rw[<- r2.length];exact F.len _ _ _ _ hsp
 have bt:=T.b _ (Value.ref e::us) I1.kIn (by rw[M9];exact hl);rw[M9]at bt;refine Om (codeAny_mono (F.run _ X.stack _ _ ⟨Value.ref e::us,[]⟩ (Value.ref e::us) _ _ E0 (hr.make C us []) (I1.env0.make C us []) bt r2 hsp) λres s' hq'=>?_)
 cases res with
 |error x=>exact hq'.elim
 | ok fl =>
  cases fl with
  | ret u =>
   obtain⟨v,H2,I2,rv,ev,dx,kp,e2,alt⟩:=I1.after hq';subst ev;refine⟨rv,?_⟩;have fl:=I2.xo e2;have I3:=I2.forget e2
   have up:∀b o,H b=some o->Kb H2 e b=some o:=λb o q=>by
    have hb:b≠e:=λz=>by subst z;rw[hn]at q;cases q
    rw[cq hb];exact kp b hb o (by rw[ar hb];exact q)
   rcases alt with⟨z1,z2⟩|⟨d,z1,z2,z3,z4,z5⟩
   . exact hq s' _ e dx I3 up jO hsz fl (.inl ⟨z1,z2⟩)
   .
    have hd:Kb H2 e d=some (XD d (ns.zip vs)):=by rw[cq z2];exact z3
    obtain⟨mA,nA,rA,_⟩:=I2.xd z3;obtain⟨od,es,ep,hod,r1⟩:=id nA;have I4:=I3.reword (w:=.frz od (.xd (ns.zip vs))) hd (λq=>q) (λ_ q=>nomatch q) ⟨hod,mA,nA,rA⟩ (λ_ _ _ q=>nomatch q);have dn:H d=none:=by rw[ar z2]at z4;exact z4
    refine hq s' _ e dx I4 (λb o q=>?_) (by rw[ar (NH z2)];exact jO) hsz fl (.inr ⟨d,od,z1,aG,z5⟩);rw[ar (aQ q dn)];exact up b o q
  |next=>exact False.elim hq'
  |brk=>exact False.elim hq'
  |cont=>exact False.elim hq'
theorem zl{c:Str}{C fI:Addr}{ns:List Str}{sp:Sp}{cpos:Pos}(T:XT X.K X.mg c C fI fd ps ns)(F:FnOk X.prog X.w X.K X.mg X.base CX0 k fI fd ps sp)(hi:∀vs:List V,vs.length=n->w4 X.K sp C ns vs)(hr:fw (k+1) X.A)(hg:Gl X c)(hx:Kk X xp)(ha:Jy X (e::es) bs t)(hn:bs.length=n)
  (hdb:(c == ("__debug__" : Str))=false:=by decide) (he:starEach (e::es) X.env=(false,eval e X.env)::starEach es X.env:=by rfl) (hpl:(backTo cpos (starEach es X.env)).any (·.1)=false:=by rfl) :
  PM X (.Raise (some (.Call (.Name c p) (e::es) [] cpos)) none pos) (jQ c ns xp t):=by
 intro gV s σ H Pr Z p4 I E0 h;obtain⟨LL,cd,S⟩:=c8 T.s;rw[arm_exec_Raise];refine kS (wpAny_standAt ?_);refine D7 S hr.hd (kS (Np (Nw (fV I hg T.m ?_ hdb)) (λv s3 h3=>kS (wpAny_standAt (MB h3))) λ_ _ z=>z));refine N3 (h₀:=X.base) I.ok.mod.kin T.kp (IT (ha cpos gV s σ H Pr Z _ I E0 h) λus s1 ⟨vs,H1,ls,Z1,I1,r,hl,hbl,E1,hv,q⟩=>⟨I1.kIn,?_⟩) he hpl;obtain⟨ds,rfl,q0,q1,q⟩:=hG q;have kz:vs.length=ds.length:=by simpa using hl
 have rs:=hJ kz E1;refine w5 T F (hi vs (hbl.trans hn)) hr (by show us.length<=sizeLine;rw[<- r.length,kz];exact MH q1 x_) I1 r λs' H' e dx I2 up na hsz fl alt=>⟨e,dx,rfl,I2.kIn,fl,?_⟩;refine hx gV σ H' s' e _ dx none ⟨c,ns,uV ns ds⟩ I2 ⟨fl,na,(λ_ z=>nomatch z),I1.newer hsz,(λ_ z=>nomatch z)⟩ ?_ q;rcases alt with⟨z1,z2⟩|⟨d,od,z1,z2,z3⟩
 . exact⟨C,[],rfl,T.s,T.fn,.inl ⟨z1,rfl,z2⟩,by unfold uV;rw[if_pos z1];exact .nil⟩
 .
  by_cases zn:ns=[]
  .
   subst zn;have e0:vs=[]:=by cases vs with|nil=>rfl|cons _ _=>simp at z3
   subst e0;exact⟨C,[],rfl,T.s,T.fn,.inr ⟨d,od,z1,z2,z3⟩,by unfold uV;rw[if_pos rfl];exact .nil⟩
  . exact⟨C,vs,rfl,T.s,T.fn,.inr ⟨d,od,z1,z2,z3⟩,by unfold uV;rw[if_neg zn];exact rs.pres λb o _ q=>up b o q⟩
end
def Kn(p4:L->Prop):Fl->Ev->Prop:=λf _=>match f with
 |.rt r=>p4 r
 |.nx=>p4 (.d .non)
 |_=>False
theorem w7{P:Program}{w:World}{K:Frag}{mg:Str->Option Value}{base:Heap}{x qual:Str}{st:Stmt}{f:Addr}{fd:FuncData}{N ps:List Str}{k:Nat}{fs:Kl}(F:Jv K x qual st f fd)(S:aO N ps (aB st))(t:(Xc->Prop)->W Fl)
  (hbody:∀(cdv:Value)(A:Around)(outer:List Env)(s:Shared)(H:Hp)(E:XK)(xp:Xc->Prop),fw k (A.deeper (envOfC qual (aB st) s.heap.objs.size f cdv))->(∀cls dx H' y,uU K H' cls dx y->xp y->E cls dx H') ->
   Jz (yi (Ki P w) P w K mg base N qual (aB st) f cdv A outer s H E) (cj st) (t xp))
  (h:∀ds p4 xp,ds.length=ps.length->fs ds p4 xp->t xp (ds.map .d++List.replicate (N.length-ps.length) .un) (Kn p4)):FnOk P w K mg base (Ki P w) (k+1) f fd ps (Km K ps.length fs):=by
 obtain⟨oc,od,kV,doc,pm,an,cdv,ct,osl,rfl,lk,hcd⟩:=F.ex;refine AW lk hcd S (λvs H Q E q=>q.1) λA outer s H vs Q E hr q=>?_;obtain⟨hl,ds,p4,xp,rs,hf,q1,q2⟩:=q;have E0:ay K H H (vs.map some) (ds.map .d):=⟨λ_ _ e=>e,by rw[oI];exact Oj,λa ha=>(by rw[oI]at ha;simp at ha),ay.ds rs⟩;refine⟨_,(hbody cdv A outer s H E xp hr q2).pss,H,ds.map .d++List.replicate (N.length-ps.length) .un,Kn p4,?_,h ds p4 xp (by rw[<- rs.length];exact hl) hf,λσ' H' Z' E' p=>?_,λ_ _ _ _ p=>p.elim,λ_ _ _ _ p=>p.elim,λv τ H' r Z' E' p=>?_⟩
 . unfold kC;rw[hl];exact E0.uns _
 . exact q1 .non H' (.d .non) ((⟨E'.sub,Oj,λa ha=>(by simp[owns]at ha),.nil⟩:ay K H H' [] []).cons_d .non) p
 . exact q1 v H' r (ay.left (τ:=[some v]) (lam:=[r]) E' rfl) p
section
variable{X:Cx}{gV:List (Addr×Obj)}{σ:St}{H:Hp}{s:Shared}
theorem IR.lost{n:Str}{i:Nat}{h':Heap}{t':Nat}{m m':Str->Option Value}(I:IR X gV σ H s)(hN:X.N.Nodup)(hi:X.N[i]?=some n)(hn:s.heap.Ns X.env.locals m)(hn':h'.Ns X.env.locals m')(hm:∀y,y≠n->m' y=m y)(hs:Heap.SameBut X.env.locals s.heap h') :
  IR X gV (σ.set i none) H {s with heap:=h',toks:=t' }:=by
 have nl:∀b o,X.s₀.heap.get? b=some o->b≠X.env.locals:=λb o e=>MO (Mz (MA e) I.ok.above);refine⟨I.ok,I.os,I.bare,⟨λb o e n hb hx=>(hs.2 b (nl b o e)).trans (I.base.keep b o e n hb hx),λb o e n hb hx=>?_,I.base.free,λb o e hx=>?_,I.base.tups,I.base.frzs,I.base.tbls⟩,⟨m',hn',λj y v e1 e2 e3=>?_⟩,λy c e=>?_,I.free,I.freeC,λp hp=>?_,λb o e=>?_,by simpa using I.len⟩
 . obtain⟨sl,e1⟩:=I.base.slot b o e n hb hx;exact⟨sl,(hs.2 b (nl b o e)).trans e1⟩
 . obtain⟨o',e1⟩:=I.base.there b o e hx;exact⟨o',(hs.2 b (nl b o e)).trans e1⟩
 .
  have hj:j≠i:=λz=>by
   subst z;have hlt:j<σ.length:=by rw[I.len];exact(Mx.mp hi).1
   rw[Nj hlt]at e2;cases e2
  rw[Nz (NH hj)]at e2;obtain⟨m0,hn0,hl⟩:=I.loc;obtain⟨u,r,q⟩:=hl j y v e1 e2 e3;have hy:y≠n:=λz=>hj (oz hN e1 (z ▸ hi));refine⟨u,r,?_⟩;rcases q with⟨k,e⟩|⟨k,c,e,z⟩
  . refine .inl ⟨k,?_⟩;rw[hm y hy];obtain⟨o1,es1,ep1,a1,a2,a3,a4⟩:=hn;obtain⟨o2,es2,ep2,b1,b2,b3,b4⟩:=hn0;rw[a1]at b1;cases b1;rw[a2]at b2;cases b2;rw[<- a4 y,b4 y];exact e
  . exact .inr ⟨k,c,e,z.sameBut hs (I.cne y c e)⟩
 . obtain⟨v,z⟩:=I.cell y c e;exact⟨v,z.sameBut hs (I.cne y c e)⟩
 . obtain⟨a1,a2,a3,a4⟩:=I.pin p hp;exact⟨(hs.2 _ a3).trans a1,a2,a3,a4⟩
 .
  refine(I.hok b o e).stay (λc v hc z=>(hs.2 c λq=>?_).trans z) (λ_ z=>z) (λ_ _ z=>z) λ_ _ _ _ z=>z
  have:∃o',H c=some o':=by
   rcases hc with rfl|hc
   . exact⟨o,e⟩
   . exact⟨_,hc⟩
  obtain⟨o',ho'⟩:=this;rw[q,I.free]at ho';cases ho'
theorem jR{M:Model}{A:Around}{E:Value->Shared->Prop}{n:Str}{i:Nat}{pos:Pos}{Q:Unit->Shared->Prop}(I:IR X gV σ H s)(hN:X.N.Nodup)(hi:X.N[i]?=some n)(hl:X.env.kindOf n=some .local)(hx:IQ X.env.scope n)(hf:X.fn n=true∨X.env.scope.names.lookup n=some .local)
  (hq:∀s',IR X gV (σ.set i none) H s'->Q () s'):wpAny M A (do bindName X.env n .none;unbindBehindTheSuite X.env n pos) Q E s:=by
 have hcls:(X.env.scope.kind == .class ||(X.env.scope.kind == .module && X.env.locals != X.env.globals))=false:=by rw[I.ok.kind];rfl
 refine kS (wpAny_bindName (iB (v:=.non) I hN hi hx rfl (λs1 I1=>?_) hf));obtain⟨m,hn,_⟩:=id I1.loc;unfold unbindBehindTheSuite;refine wpAny_onRaise ?_;unfold unbindName;refine kS (wpAny_point (kS ?_));unfold deleteName;simp only[hl,hcls];rw[if_neg (by decide)];refine kS (wpAny_nsDel_keeps hn λh2 v hn2 hs2=>?_)
 have hsome:(m n).isSome=true:=by
  obtain⟨m1,hn1,hl1⟩:=I1.loc;have hlt:i<σ.length:=by rw[I.len];exact(Mx.mp hi).1
  obtain⟨u,r,q⟩:=hl1 i n .non hi (by simp[hlt]) (hx.elim .inl λz=>.inr (.inl z));obtain⟨o1,es1,ep1,a1,a2,a3,a4⟩:=hn;obtain⟨o2,es2,ep2,b1,b2,b3,b4⟩:=hn1;rw[a1]at b1;cases b1;rw[a2]at b2;cases b2;rcases q with⟨k,e⟩|⟨k,_⟩
  . rw[<- a4 n,b4 n,e];rfl
  . rw[hl]at k;rcases k with k|k<;>cases k
 rw[hsome];simp only[if_true,Bool.not_true,Bool.false_eq_true,if_false];refine MB (wpAny_point ?_);have z:=I1.lost (t':=s1.toks) hN hi hn hn2 (λy hy=>by rw[if_neg hy]) hs2;rw[NU]at z;exact hq _ z
end
noncomputable def Ko(c y:Str):Bool:=c == y ||c == ("LoadError" : Str)
structure XH (K:Frag) (mg:Str->Option Value) (c:Str) (C:Addr):Prop where
 m:mg c=some (.ref C)
 ns:nsIn K mainGlobals c=some (some (.ref C))
 cls:∃cd,clsIn K C=some cd/\cd.name=c
 ty:typeIn K (.ref C)=some (.type "type")
 base:mroIn K C (.type "BaseException")=some true
section
variable{K:Frag}{mg:Str->Option Value}{c y:Str}{C D:Addr}
theorem XH.sub(T:XH K mg c C)(hs:g9 K y D=true):mroIn K D (.ref C)=some (Ko c y):=by
 obtain⟨L,cd,S⟩:=c8 hs;obtain⟨cdC,hC,hn⟩:=T.cls;obtain⟨kL,hL,hnL⟩:=S.lname;rw[S.mroIn,sV]
 congr 1
 unfold Ko
 have e1:(C == D)=(c == y):=by
  by_cases h:c=y
  . subst h;have z:=T.ns.symm.trans S.own;cases z;simp
  . rw[MT.mpr h,MT];intro z;subst z;rw[S.cls]at hC;cases hC;exact h (hn.symm.trans S.name)
 have e2:(C == L)=(c == ("LoadError" : Str)):=by
  by_cases h:c=("LoadError" : Str)
  . subst h;have z:=T.ns.symm.trans S.load;cases z;simp
  . rw[MT.mpr h,MT];intro z;subst z;rw[hL]at hC;cases hC;exact h (hn.symm.trans hnL)
 rw[e1,e2]
theorem Ec{M:Model}{A:Around}{E:Value->Shared->Prop}{s:Shared}{a:Addr}{ox:Obj}{Q:Bool->Shared->Prop}(T:XH K mg c C)(hs:g9 K y D=true)(hA:Ko c y=true)(X:K.In s.heap)(he:s.heap.get? a=some ox)(hc:ox.cls=.ref D)(hq:Q true s) :
  wpAny M A (excMatches (.ref a) (.ref C)) Q E s:=by
 obtain⟨hp,g,d,tk,os⟩:=s;have he:hp.get? a=some ox:=he;obtain⟨cd,hcd,_⟩:=T.cls;obtain⟨oc,odc,slc,hK⟩:=l7 hcd;have hC:hp.get? C=some ⟨oc,odc,.cls cd,slc⟩:=X _ _ hK;have L1:Looks M hp (typeOf (.ref C)) (.type "type"):=looks_typeIn X T.ty;have L2:Looks M hp (isSubtype (.ref C) (.type "BaseException")) true:=looks_mroIn X T.base;have L3:Looks M hp (isSubtype (.ref D) (.ref C)) true:=looks_mroIn X (by rw[T.sub hs,hA]);have f:=tc_notTuple;have L4:Looks M hp (isInstance (.ref C) (.type "tuple")) false:=L1.andThen (Looks.of_pure f);have L5:Looks M hp (typeOf (.ref a)) (.ref D):=hc ▸ (Looks.ld he).andThen .now;unfold excMatches;refine kS (L4.at ?_);dsimp only;rw[if_neg (by decide)]
 repeat (first|with_reducible refine L2.at ?_|with_reducible refine L3.at ?_|with_reducible refine L5.at ?_|with_reducible refine Ni hC ?_|wp_step)
 exact hq
end
noncomputable abbrev Cx.tr(X:Cx)(gV:List (Addr×Obj))(E:Value->Shared->Prop):Cx:={X with pn:=X.pn++gV,xe:=E}
noncomputable abbrev Cx.han(X:Cx)(a:Addr):Cx:={X with A:=X.A.mark (some (.ref a)),calm:=false,xe:=λ_ _=>False}
section
variable{X:Cx}{gV pins0:List (Addr×Obj)}{σ:St}{H:Hp}{s:Shared}{E:Value->Shared->Prop}{a:Addr}
theorem Cx.Ok.tr(ok:X.Ok):(X.tr gV E).Ok:=⟨ok.mod,ok.kind,ok.glob,ok.blt,ok.above,ok.inj,ok.has,ok.cab,ok.hd,ok.frames,ok.stk,ok.exf,ok.bs,ok.bsz,ok.noex,ok.exfs,ok.funs,ok.frf,ok.tbs⟩
theorem Cx.Ok.untr(ok:(X.tr gV E).Ok):X.Ok:=⟨ok.mod,ok.kind,ok.glob,ok.blt,ok.above,ok.inj,ok.has,ok.cab,ok.hd,ok.frames,ok.stk,ok.exf,ok.bs,ok.bsz,ok.noex,ok.exfs,ok.funs,ok.frf,ok.tbs⟩
theorem IR.tr(I:IR X gV σ H s):IR (X.tr gV E) [] σ H s:=⟨I.ok.tr,I.os,I.bare,I.base,I.loc,I.cell,I.free,I.freeC,λp hp=>I.pin p (by simpa using hp),I.hok,I.len⟩
theorem IR.untr(I:IR (X.tr pins0 E) gV σ H s):IR X pins0 σ H s:=⟨I.ok.untr,I.os,I.bare,I.base,I.loc,I.cell,I.free,I.freeC,λp hp=>I.pin p (MJ _ hp),I.hok,I.len⟩
theorem IR.han(I:IR X gV σ H s)(a:Addr):IR (X.han a) gV σ H s :=
 ⟨⟨I.ok.mod,I.ok.kind,I.ok.glob,I.ok.blt,I.ok.above,I.ok.inj,I.ok.has,I.ok.cab,(λz=>nomatch z),I.ok.frames,I.ok.stk,I.ok.exf,I.ok.bs,I.ok.bsz,I.ok.noex,I.ok.exfs,I.ok.funs,I.ok.frf,I.ok.tbs⟩,I.os,I.bare,I.base,I.loc,I.cell,I.free,I.freeC,I.pin,I.hok,I.len⟩
theorem IR.unhan(I:IR (X.han a) gV σ H s)(ok:X.Ok):IR X gV σ H s:=⟨ok,I.os,I.bare,I.base,I.loc,I.cell,I.free,I.freeC,I.pin,I.hok,I.len⟩
theorem SM.untr{Pr:Hp}{p4:Fl->Ev->Prop}{f:Flow}{s':Shared}(h:SM (X.tr pins0 E) gV Pr p4 f s'):SM X pins0 Pr p4 f s':=by
 cases f with
 |next=>obtain⟨σ',H',Z',I,r⟩:=h;exact⟨σ',H',Z',I.untr,r⟩
 |brk=>obtain⟨σ',H',Z',I,r⟩:=h;exact⟨σ',H',Z',I.untr,r⟩
 |cont=>obtain⟨σ',H',Z',I,r⟩:=h;exact⟨σ',H',Z',I.untr,r⟩
 |ret u=>obtain⟨v,σ',H',r',Z',τ,I,r⟩:=h;exact⟨v,σ',H',r',Z',τ,I.untr,r⟩
end
def Kp(X:Cx)(gV:List (Addr×Obj))(Pr:Hp)(xp:Xc->Ev->Prop):Value->Shared->Prop:=λe s'=>∃σ' H' Z' a cls dx T x,e=.ref a/\IR X gV σ' H' s'/\ay X.K Pr H' σ' Z'/\tU X gV H' s' a cls dx T/\uU X.K H' cls dx x/\xp x Z'
noncomputable abbrev Cx.tb(X:Cx)(gV:List (Addr×Obj))(Pr:Hp)(xp:Xc->Ev->Prop):Cx:=X.tr gV (Kp X gV Pr xp)
def Le(P Q:Hp):Prop:=∀b o,P b=some o->Q b=some o
theorem ay.le{K:Frag}{P Q H:Hp}{σ:St}{Z:Ev}(E:ay K Q H σ Z)(h:Le P Q):ay K P H σ Z:=⟨λb o e=>E.sub b o (h b o e),E.nd,λa ha=>(by
  have z:=E.off a ha
  cases q:P a with
  |none=>rfl
  |some o=>rw[h a o q]at z;cases z),E.sl⟩
def Kq(X:Cx)(pins0:List (Addr×Obj))(Pr0:Hp)(xp:Xc->Ev->Prop)(e:Expr)(t:W L):Prop :=
 ∀(gV:List (Addr×Obj))(s:Shared)(σ:St)(H Pr:Hp)(Z:Ev)(p4:L->Ev->Prop),Le Pr0 Pr->IR (X.tb pins0 Pr0 xp) gV σ H s->ay X.K Pr H σ Z->t Z p4->wpAny (model X.prog X.w) X.A (eval e X.env) (EL (X.tb pins0 Pr0 xp) gV σ Pr p4) (Kp X pins0 Pr0 xp) s
def Kr(X:Cx)(pins0:List (Addr×Obj))(Pr0:Hp)(xp:Xc->Ev->Prop)(st:Stmt)(t:W Fl):Prop :=
 ∀(gV:List (Addr×Obj))(s:Shared)(σ:St)(H Pr:Hp)(Z:Ev)(p4:Fl->Ev->Prop),Le Pr0 Pr->IR (X.tb pins0 Pr0 xp) gV σ H s->ay X.K Pr H σ Z->t Z p4->wpAny (model X.prog X.w) X.A (exec st X.env) (SM (X.tb pins0 Pr0 xp) gV Pr p4) (Kp X pins0 Pr0 xp) s
def Hb(X:Cx)(pins0:List (Addr×Obj))(Pr0:Hp)(xp:Xc->Ev->Prop)(sts:List Stmt)(t:W Fl):Prop :=
 ∀(gV:List (Addr×Obj))(s:Shared)(σ:St)(H Pr:Hp)(Z:Ev)(p4:Fl->Ev->Prop),Le Pr0 Pr->IR (X.tb pins0 Pr0 xp) gV σ H s->ay X.K Pr H σ Z->t Z p4->wpAny (model X.prog X.w) X.A (execs sts X.env) (SM (X.tb pins0 Pr0 xp) gV Pr p4) (Kp X pins0 Pr0 xp) s
def tV(fs:Kl)(xp:Xc->Ev->Prop)(t:W (List L)):W L:=λZ p4=>t Z λls Z1=>yK ls λds=>fs ds (λr=>p4 r Z1) (λy=>xp y Z1)
section
variable{X:Cx}{pins0:List (Addr×Obj)}{Pr0:Hp}{xp:Xc->Ev->Prop}{k n:Nat}{f:Addr}{fd:FuncData}{ps:List Str}{fs:Kl}{x:Str}{p pos:Pos}{e:Expr}{es:List Expr}{bs:List (Option Nat)}{t:W (List L)}{te:W L}{tm:W Fl}{st:Stmt}
theorem zm(F:FnOk X.prog X.w X.K X.mg X.base (Ki X.prog X.w) k f fd ps (Km X.K n fs))(hr:fw k X.A)(hg:Gl X x)(hm:X.mg x=some (.ref f))(hk:PySem.W.keepIn X.K (.ref f)=true)(hb:jE X.K fd ps [])
  (ha:Jy (X.tb pins0 Pr0 xp) (e::es) bs t) (hn:bs.length=n) (hdb:(x == ("__debug__" : Str))=false:=by decide) (he:starEach (e::es) X.env=(false,eval e X.env)::starEach es X.env:=by rfl) (hpl:(backTo pos (starEach es X.env)).any (·.1)=false:=by rfl) :
  Kq X pins0 Pr0 xp (.Call (.Name x p) (e::es) [] pos) (tV fs xp t):=by
 intro gV s σ H Pr Z p4 le I E0 h;refine Nw (fV (X:=X.tb pins0 Pr0 xp) I hg hm ?_ hdb);refine N3 (h₀:=X.base) I.ok.mod.kin hk (IT (ha pos gV s σ H Pr Z _ I E0 h) λus s1 ⟨vs,H1,ls,Z1,I1,r,hl,hbl,E1,hv,q⟩=>⟨I1.kIn,?_⟩) he hpl;obtain⟨ds,rfl,q1⟩:=hG q;have kz:vs.length=ds.length:=by simpa using hl
 refine Eb (X:=X.tb pins0 Pr0 xp) (p4:=p4) F hr hb (hbl.trans hn) I1 (E1.drop (by simp[kz])) r (hJ kz E1) q1 λs' H' a cls dx T y I2 E2 R z1 z2=>?_;exact⟨σ,H',Z1,a,cls,dx,T,y,rfl,I2.untr,E2.le le,⟨R.fly,R.na,R.nt,⟨R.wa.s0,R.wa.loc,R.wa.cel,λp hp=>R.wa.pin p (MJ _ hp)⟩,λt et=>⟨(R.wt t et).s0,(R.wt t et).loc,(R.wt t et).cel,λp hp=>(R.wt t et).pin p (MJ _ hp)⟩⟩,z1,z2⟩
theorem zo(he:Kq X pins0 Pr0 xp e te)(hs:swapsWith e none pos.line X.env=pure false:=by rfl):Kr X pins0 Pr0 xp (.Expr e pos) (m9 te):=by intro gV s σ H Pr Z p4 le I E h;exact wpAny_Expr_any (IT (he gV s σ H Pr Z _ le I E h) λv s1 ⟨x,H1,r,Z1,I1,r1,E1,q1⟩=>⟨σ,H1,Z1,I1,E1.tail,q1⟩) I.quiet hs
theorem zp(h1:Kr X pins0 Pr0 xp st tm):Hb X pins0 Pr0 xp [st] tm:=by
 intro gV s σ H Pr Z p4 le I E h;refine wpAny_execs_cons (IT (h1 gV s σ H Pr Z p4 le I E h) λf s1 q=>?_)
 cases f with
 |next=>exact N8 q
 |brk=>exact q
 |cont=>exact q
 |ret u=>exact q
end
def w8(tb:(Xc->Ev->Prop)->W Fl)(c:Str)(i:Nat)(ts:W Fl):W Fl:=λZ p4=>tb (λx Z1=>Ko c x.c=true/\ts (Z1.set i (.d (.exc x.c x.ns x.ds))) λf Z2=>p4 f (Z2.set i .un)) Z p4
section
variable{X:Cx}{gV:List (Addr×Obj)}{σ:St}{H:Hp}{s:Shared}
theorem IR.landed{Pr:Hp}{Z:Ev}{a:Addr}{cls:Value}{dx T:Option Addr}{h1:Heap}(I:IR X gV σ H s)(R:tU X gV H s a cls dx T)(hstk:X.stack=X.env::X.outer)
  (k1:∀b o,b≠a->some b≠T->b∉IM (X.env::X.outer)->s.heap.get? b=some o->h1.get? b=some o) (k2:∀b o,b≠a->some b≠T->s.heap.get? b=some o->∃sl,h1.get? b=some {o with slots:=sl}):IR X gV σ H {s with heap:=h1}:=by
 have nch:∀b,b∉a::T.toList->b≠a/\some b≠T:=λb hb=>⟨λz=>hb (by simp[z]),λz=>hb (by simp[<- z])⟩;have tra:∀b o,H b=some o->b≠a/\some b≠T/\b∉IM (X.env::X.outer):=λb o e=>by refine⟨λz=>(by subst z;rw[R.na]at e;cases e),λz=>(by rw[R.nt b z.symm]at e;cases e),λz=>?_⟩;have:=I.stkFree b (by rw[hstk];exact z);rw[e]at this;cases this
 refine I.call (g':=s.gens) (t':=s.toks) (d':=s.drawn) (ch:=a::T.toList) ⟨λb o e n hf hx=>?_,λb o e n hf hx=>?_,λb o e n hx=>n,λb o e hx=>?_,λ_ _ e=>e,λ_ _ _ e=>e,λ_ _ e=>e⟩ (λb o e=>?_) I.bare λb hb=>?_
 . exact k1 b o (nch b hx).1 (nch b hx).2 (by rw[<- hstk];exact hf) e
 . exact k2 b o (nch b hx).1 (nch b hx).2 e
 . obtain⟨sl,q⟩:=k2 b o (nch b hx).1 (nch b hx).2 e;exact⟨_,q⟩
 .
  refine(I.hok b o e).stay (λc v hc z=>?_) (λ_ z=>z) (λ_ _ z=>z) λ_ _ _ _ z=>z
  have ht:∃o',H c=some o':=by
   rcases hc with rfl|hc
   . exact⟨o,e⟩
   . exact⟨_,hc⟩
  obtain⟨o',ho'⟩:=ht;obtain⟨t1,t2,t3⟩:=tra c o' ho';exact k1 c v t1 t2 t3 z
 .
  have w:Kj X gV b:=by
   rcases MC.mp hb with rfl|hb
   . exact R.wa
   . exact R.wt b (by cases T with|none=>simp at hb|some t=>simp at hb;rw[hb])
  exact⟨.inr w.s0,w.loc,w.cel,w.pin⟩
end
section
variable{X:Cx}{body suite:List Stmt}{b0:Stmt}{c:Str}{C:Addr}{p hp pos:Pos}{tb:(Xc->Ev->Prop)->W Fl}{ts:W Fl}
theorem zr{n:Str}{i:Nat}(hstk:X.stack=X.env::X.outer)(hf:X.env.frame=some X.env.locals)(TC:XH X.K X.mg c C)(hg:Gl X c)(hN:X.N.Nodup)(hi:X.N[i]?=some n)(hl:X.env.kindOf n=some .local)(hx:IQ X.env.scope n)(hb:∀ gV Pr xp,Hb X gV Pr xp body (tb xp))(hs:∀ a,Jz (X.han a) (b0::suite) ts) (hdb:(c == ("__debug__" : Str))=false:=by decide)
  (hfn:X.fn n=true∨X.env.scope.names.lookup n=some .local:=by first|exact .inl rfl|exact .inr rfl|assumption) :
  PM X (.Try body [.ExceptHandler (some (.Name c p)) (some n) (b0::suite) hp] [] [] pos) (w8 tb c i ts):=by
 intro gV s σ H Pr Z p4 I E h;refine wpAny_Try_except (Np (hb gV Pr (λx Z1=>Ko c x.c=true/\ts (Z1.set i (.d (.exc x.c x.ns x.ds))) λf Z2=>p4 f (Z2.set i .un)) [] s σ H Pr Z p4 (λ_ _ z=>z) I.tr E h) (λf s1 q=>?_) λe s1 q=>?_)
 .
  have q':=SM.untr q
  cases f with
  |next=>exact N8 q'
  |brk=>exact q'
  |cont=>exact q'
  |ret u=>exact q'
 .
  obtain⟨σ',H',Z',a,cls,dx,T,x,rfl,I1,E1,R,F,hA,hts⟩:=q;refine D8 (hstk ▸ I1.ok.frames) (hstk ▸ I1.stack) hf R.fly λh1 T1 fl hT1 k1 k2=>?_;have I2:=I1.landed (Pr:=Pr) (Z:=Z') R hstk k1 k2;have w1:=I1.newer hT1;obtain⟨D0,vs,rfl,hstd,hfq,hxf,rs⟩:=F;refine wpAny_handleBy_cons (codeAny_handlers_test (fV (I2.han a) hg TC.m ?_ hdb)) (by intro q;cases q);obtain⟨vv,sl,he,_⟩:=id fl;refine Ec TC hstd hA I2.kIn he rfl ?_;refine codeAny_handlers_suite_as (Ge fl λh2 fl2 k3=>?_);have I3:=I2.turned (it:=T1) (t':=s1.toks) (λb o hb e=>k3 b o hb e) (I1.hok.fresh hT1) w1.loc (.inr w1.s0) w1.cel w1.pin;obtain⟨vv2,sl2,he2,_⟩:=id fl2;have I4:=I3.track (o:=.frz ⟨.ref D0,dx,.fields vv2,sl2⟩ (.ext λh=>h.get? a=some ⟨.ref D0,dx,.fields vv2,sl2⟩)) R.na R.wa.s0 R.wa.loc R.wa.cel R.wa.pin ⟨he2,he2,⟨_,he2⟩,λh1 h2 p k=>k _ p⟩;have pr:m8 H' (IH H' a (.frz ⟨.ref D0,dx,.fields vv2,sl2⟩ (.ext λh=>h.get? a=some ⟨.ref D0,dx,.fields vv2,sl2⟩))):=λb o _ e=>by rw[ar (aQ e R.na)];exact e
  have rep:Jx X.K (IH H' a (.frz ⟨.ref D0,dx,.fields vv2,sl2⟩ (.ext λh=>h.get? a=some ⟨.ref D0,dx,.fields vv2,sl2⟩))) (.ref a) (.exc x.c x.ns x.ds):=.exc aG True.intro rfl rfl hstd hfq (hxf.pres pr) (rs.pres pr);have E4:=(E1.new (o:=.frz ⟨.ref D0,dx,.fields vv2,sl2⟩ (.ext λh=>h.get? a=some ⟨.ref D0,dx,.fields vv2,sl2⟩)) R.na).cons_d rep;have hil:i<σ'.length:=by rw[I1.len];exact(Mx.mp hi).1
  refine iB (X:=X.han a) (I4.han a) hN hi hx (v:=.ref a) rfl (λs5 I5=>?_) hfn;refine Np (hs a gV s5 _ _ Pr _ _ I5 (E4.store hil) hts) (λf s6 q=>?_) λ_ _ z=>z.elim
  cases f with
  | next =>
   obtain⟨σ2,H2,Z2,J,E2,q⟩:=q;exact jR (J.unhan I.ok) hN hi hl hx hfn λs7 J7=>⟨_,H2,_,J7,E2.forget i none,q⟩
  | brk =>
   obtain⟨σ2,H2,Z2,J,E2,q⟩:=q;exact jR (J.unhan I.ok) hN hi hl hx hfn λs7 J7=>⟨_,H2,_,J7,E2.forget i none,q⟩
  | cont =>
   obtain⟨σ2,H2,Z2,J,E2,q⟩:=q;exact jR (J.unhan I.ok) hN hi hl hx hfn λs7 J7=>⟨_,H2,_,J7,E2.forget i none,q⟩
  | ret u =>
   obtain⟨v,σ2,H2,r,Z2,τ,J,rv,E2,q⟩:=q;exact jR (J.unhan I.ok) hN hi hl hx hfn λs7 J7=>⟨v,_,H2,r,_,_,J7,rv,E2.forget (i+1) none,q⟩
end
noncomputable def Ks(c:Str):D->Bool
 |.exc y _ _=>Ko c y
 |_=>false
def zu(c:Str):D->(L->Prop)->Prop:=λd k=>k (.d (.bl (Ks c d)))
def tX(cs:List Str):D->(L->Prop)->Prop:=λd k=>k (.d (.bl (cs.any λc=>Ks c d)))
theorem w9{K:Frag}{mg:Str->Option Value}{c:Str}{C:Addr}(T:XH K mg c C)(d:D)(t:Value)(h:JQ K d t):kitOne K t (.ref C)=some (Ks c d):=by
 obtain⟨cd,hcd,_⟩:=T.cls;have hk:((clsIn K C).isSome && typeIn K (.ref C) == some (.type "type"))=true:=by rw[hcd,T.ty]; rfl
 unfold kitOne kitCls;dsimp only;rw[if_pos hk]
 cases d with
 | exc y ns xs =>
  obtain⟨D0,rfl,hs⟩:=h;have hsub:=T.sub hs;by_cases q:D0=C
  .
   subst q;rw[if_pos (by simp)];have e1:mroIn K D0 (.ref D0)=some true:=by obtain⟨L,cd',S⟩:=c8 hs;rw[S.mroIn,sV];simp
   rw[hsub]at e1;exact e1.symm
  . rw[if_neg (by intro z;exact q (Value.ref.inj (On.mp z)))];exact hsub
 |_=>cases h;rfl
section
variable{X:Cx}{a:Expr}{ta:W L}{pos p:Pos}
theorem Ed{c:Str}{C:Addr}{py:Pos}(T:XH X.K X.mg c C) (hg:Gl X "isinstance") (hm:X.mg "isinstance"=none) (hy:Gl X c) (ha:PL X a ta) (hdy:(c == ("__debug__" : Str))=false:=by decide)
  (h1:starEach [a,.Name c py] X.env=(false,eval a X.env)::starEach [.Name c py] X.env:=by rfl) (h2:starEach [.Name c py] X.env=[(false,eval (.Name c py) X.env)]:=by rfl) (hpl:(backTo pos (starEach [.Name c py] X.env)).any (·.1)=false:=by rfl) :
  PL X (.Call (.Name "isinstance" p) [a,.Name c py] [] pos) (JG (zu c) ta):=by
 have cr:gY X (.builtin "isinstance") (λxs H Q=>∃ x d,xs=[x,.ref C]/\Jx X.K H x d/\Q (.bl (Ks c d)) H):=by intro gV s σ H xs us Q I rv h;obtain⟨x,d,rfl,r,q⟩:=h;obtain⟨u,w,rfl,r1,r2⟩:=uz rv;cases r2;exact tE I r1 r (λt ht=>w9 T d t ht) λtk=>⟨.bl _,H,I.tok _,rfl,q⟩
 refine PL.of (lR cr hg hm y_ (br (aC ha).pe (br (rg hy T.m (v:=.ref C) rfl hdy) fx h2) h1) (he:=h1) (hpl:=hpl)) λσ H Pr Z p4 E h=>?_
 refine⟨Pr,Z,λr Z1=>match r with
  |.d x=>zu c x λr=>p4 r Z1
  |_=>False,E,h,λv H' r Z' E' p=>?_⟩
 cases r with
 | d x =>
  obtain⟨_,e1,p1⟩:=E'.head_d;cases e1;exact⟨_,x,rfl,p1,_,Z',E'.tail.cons_d (.bl _),p⟩
 |_=>exact p.elim
end
noncomputable def Hc(f:Str):D->Option D
 |.exc _ ns ds=>(ns.zip ds).lookup f
 |_=>none
def ql(f:Str):D->(L->Prop)->Prop:=λd k=>match Hc f d with
 |some v=>k (.d v)
 |none=>False
theorem nU{α:Type}{f:Str}:∀{ns:List Str}{ds:List α}{v:α},(ns.zip ds).lookup f=some v->f∈ns
 | n::ns,d::ds,v,h=>by
  simp only[NJ,List.lookup]at h;split at h
  . rename_i q;rw[On.mp q];exact Mw
  . exact so _ (nU h)
 |[],_,_,h=>by simp at h
 |_::_,[],_,h=>by simp at h
theorem mC{K:Frag}{H:Hp}{f:Str}:∀{ns:List Str}{vs:List V}{ds:List D}{d:D},ns.length=vs.length->bf K H vs ds->(ns.zip ds).lookup f=some d->∃v,(ns.zip vs).lookup f=some v/\Jx K H v d
 | n::ns,v::vs,_,d,hl,.cons r t,h=>by
  simp only[NJ,List.lookup]at h ⊢;split at h
  . cases h;exact⟨v,rfl,r⟩
  . exact mC (by simpa using hl) t h
 |[],_,_,_,_,_,h=>by simp at h
 |_::_,[],_,_,hl,_,_=>by simp at hl
theorem uW{v:V}{u:Value}(r:bF v u):handedIn u=true:=by
 cases v with
 |non=>cases r;rfl
 |bl b=>cases r;rfl
 |int i=>obtain⟨t,rfl⟩:=r;rfl
 |str i=>obtain⟨t,rfl⟩:=r;rfl
 |byt i=>obtain⟨t,rfl⟩:=r;rfl
 |flt i=>obtain⟨t,rfl⟩:=r;rfl
 |ref a=>cases r;rfl
 |ty n=>cases r;rfl
section
variable{X:Cx}{e a:Expr}{te ta:W L}{f:Str}{pos p:Pos}
theorem tY(he:PL X e te)(hb:attributeBase e f X.env (eval e X.env)=eval e X.env:=by rfl):PL X (.Attribute e f pos) (JG (ql f) te):=by
 intro gV s σ H Pr Z p4 I E h;refine AV hb (IT (he gV s σ H Pr Z _ I E h) λu s1 q=>?_);obtain⟨x,H1,dx,Z1,I1,r1,E1,q1⟩:=EL.frz (p4:=λdx Z1=>ql f dx λr=>p4 r Z1) q;obtain⟨_,e1,p1⟩:=E1.head_d;cases e1;unfold ql at q1;split at q1
 .
  rename_i v hv
  cases p1 with
  | @exc a o w cc C ns vs ds h1 hvv hc hn hs hq hf rs =>
   cases r1;have hv:(ns.zip ds).lookup f=some v:=hv;obtain⟨L0,cd,S⟩:=c8 hs;rcases id hf with⟨z1,z2,z3⟩|⟨d,od,z1,z2,z3⟩
   . subst z1;simp at hv
   .
    obtain⟨v',hl,rv⟩:=mC z3 rs hv;obtain⟨hod,mA,nA,rA⟩:=(show s1.heap.get? d=some od/\∃mA,s1.heap.Ns1 d mA/\∀g,qY ((ns.zip vs).lookup g) (mA g)from I1.hok d _ z2);have ro:=rA f;rw[hl]at ro
    cases hm:mA f with
    |none=>rw[hm]at ro;exact ro.elim
    | some u0 =>
     rw[hm]at ro;obtain⟨od',hod',hlk⟩:=vK nA;rw[hod]at hod';cases hod';obtain⟨oi,Ia,hoi⟩:=oQ I1 h1 hc hn hf;obtain⟨q0,e0,e0'⟩:=hoi d z1;rw[hod]at e0';cases e0';subst e0;have hfo:=S.fown (name:=f) (o:=od) (v:=u0) (hq f (nU hv)) ((hlk f).trans (by rw[hm]));have hh:handedIn u0=true:=uW ro;exact vY S I1.kIn Ia hfo hh ⟨v',H1,.d v,Z1,I1.tok _,ro,E1.tail.cons_d rv,q1⟩
  |_=>cases hv
 . exact q1.elim
structure FG (X:Cx) (es:List Expr) (cs:List Str) (Cs:List Addr):Prop where
 pa:PA X es (λ_ H Q=>Q (Cs.map V.ref) H)
 h:Paired (λc C=>XH X.K X.mg c C) cs Cs
theorem BR:FG X [] [] []:=⟨fx,.nil⟩
theorem jS{c:Str}{C:Addr}{py:Pos}{es:List Expr}{cs:List Str}{Cs:List Addr}(T:XH X.K X.mg c C)(hy:Gl X c)(h:FG X es cs Cs) (hdy:(c == ("__debug__" : Str))=false:=by decide) (hs:starEach (.Name c py::es) X.env=(false,eval (.Name c py) X.env)::starEach es X.env:=by rfl):FG X (.Name c py::es) (c::cs) (C::Cs) :=
 ⟨br (rg hy T.m (v:=.ref C) rfl hdy) h.pa hs,.cons T h.h⟩
theorem tZ{K:Frag}{mg:Str->Option Value}{d:D}{t:Value}(ht:JQ K d t):∀{cs:List Str}{Cs:List Addr},Paired (λc C=>XH K mg c C) cs Cs->kitAny K t (Cs.map Value.ref)=some (cs.any λc=>Ks c d)
 |_,_,.nil=>rfl
 | c::cs,C::Cs,.cons T r=>by
  have ih:=tZ ht r;simp only[MN,List.any_cons];unfold kitAny;rw[w9 T d t ht];cases Ks c d
  . exact ih
  . rfl
theorem xa{Cs:List Addr}:∀{us:List Value},bL (Cs.map V.ref) us->us=Cs.map Value.ref:=by
 induction Cs with
 |nil=>intro us h;cases h;rfl
 |cons C Cs ih=>intro us h;cases h with|cons r t=>cases r;rw[ih t];rfl
theorem BS{es:List Expr}{cs:List Str}{Cs:List Addr} {x1} {tpos:Pos} (T:FG X es cs Cs) (hg:Gl X "isinstance") (hm:X.mg "isinstance"=none) (ha:PL X a ta) (hz:Cs.length<=30:=by decide)
  (h1:starEach [a,.Tuple es x1 tpos] X.env=(false,eval a X.env)::starEach [.Tuple es x1 tpos] X.env:=by rfl) (h2:starEach [.Tuple es x1 tpos] X.env=[(false,eval (.Tuple es x1 tpos) X.env)]:=by rfl)
  (hpl:(backTo pos (starEach [.Tuple es x1 tpos] X.env)).any (·.1)=false:=by rfl) :
  PL X (.Call (.Name "isinstance" p) [a,.Tuple es x1 tpos] [] pos) (JG (tX cs) ta):=by
 have cr:gY X (.builtin "isinstance") (λxs H Q=>∃ x d q,xs=[x,.ref q]/\H q=some (.tup (Cs.map V.ref))/\Jx X.K H x d/\Q (.bl (cs.any λc=>Ks c d)) H):=by intro gV s σ H xs us Q I rv h;obtain⟨x,d,q,rfl,hq,r,k⟩:=h;obtain⟨u,w,rfl,r1,r2⟩:=uz rv;cases r2;obtain⟨its,vs,it,_⟩:=I.tuple (IX.of hq);obtain rfl:=xa vs;exact wV I r1 r it (λt ht=>tZ ht T.h) λtk=>⟨.bl _,H,I.tok _,rfl,k⟩
 refine PL.of (lR cr hg hm y_ (br (aC ha).pe (br (Dq T.pa) fx h2) h1) (he:=h1) (hpl:=hpl)) λσ H Pr Z p4 E h=>?_
 refine⟨Pr,Z,λr Z1=>match r with
  |.d x=>tX cs x λr=>p4 r Z1
  |_=>False,E,h,λv H' r Z' E' pp=>?_⟩
 cases r with
 | d x =>
  obtain⟨_,e1,p1⟩:=E'.head_d;cases e1;refine⟨by rw[MD];exact MH hz x_,λq hq=>⟨_,x,q,rfl,aG,p1.new hq,_,Z',(E'.tail.new hq).cons_d (.bl _),pp⟩⟩
 |_=>exact pp.elim
end
theorem Ee{X:Cx}:Kk X (λ_=>False):=λ_ _ _ _ _ _ _ _ _ _ _ _ h=>h.elim
section
variable{X:Cx}{k k' n:Nat}{f:Addr}{fd:FuncData}{ps:List Str}{fs:Kl}{g:Str}{st:Stmt}{e:Expr}{es:List Expr}{bs:List (Option Nat)}{t:W (List L)}{p pos cpos:Pos}{xp:Xc->Prop}{c:Str}{C fI:Addr}{ns:List Str}
theorem xb(F:FnOk X.prog X.w X.K X.mg X.base (Ki X.prog X.w) k f fd ps (Km X.K n fs))(T:FX X.K X.mg g st f fd ps)(hr:fw k' X.A)(hx:Kk X xp)(ha:Jy X (e::es) bs t)(hk:k<=k':=by decide)(hg:Gl X g:=by rfl)(hn:bs.length=n:=by rfl) (hdb:(g == ("__debug__" : Str))=false:=by decide) (he:starEach (e::es) X.env=(false,eval e X.env)::starEach es X.env:=by rfl) (hpl:(backTo pos (starEach es X.env)).any (·.1)=false:=by rfl) :
  PL X (.Call (.Name g p) (e::es) [] pos) (nT fs xp t):=zk F (hr.mono hk) hg T.m T.f.kp T.b hx ha hn hdb he hpl
theorem Ef{pins0:List (Addr×Obj)}{Pr0:Hp}{xt:Xc->Ev->Prop}(F:FnOk X.prog X.w X.K X.mg X.base (Ki X.prog X.w) k f fd ps (Km X.K n fs))(T:FX X.K X.mg g st f fd ps)(hr:fw k' X.A)(ha:Jy (X.tb pins0 Pr0 xt) (e::es) bs t)(hk:k<=k':=by decide)(hg:Gl X g:=by rfl)(hn:bs.length=n:=by rfl) (hdb:(g == ("__debug__" : Str))=false:=by decide) (he:starEach (e::es) X.env=(false,eval e X.env)::starEach es X.env:=by rfl) (hpl:(backTo pos (starEach es X.env)).any (·.1)=false:=by rfl) :
  Kq X pins0 Pr0 xt (.Call (.Name g p) (e::es) [] pos) (tV fs xt t):=zm F (hr.mono hk) hg T.m T.f.kp T.b ha hn hdb he hpl
theorem fB(T:XT X.K X.mg c C fI fd ps ns)(F:FnOk X.prog X.w X.K X.mg X.base CX0 2 fI fd ps (Ea X.K ns))(hr:fw k' X.A)(hx:Kk X xp)(ha:Jy X (e::es) bs t)(hk:3<=k':=by decide)(hg:Gl X c:=by rfl)(hn:bs.length=ns.length:=by rfl)
  (hdb:(c == ("__debug__" : Str))=false:=by decide) (he:starEach (e::es) X.env=(false,eval e X.env)::starEach es X.env:=by rfl) (hpl:(backTo cpos (starEach es X.env)).any (·.1)=false:=by rfl) :
  PM X (.Raise (some (.Call (.Name c p) (e::es) [] cpos)) none pos) (jQ c ns xp t) :=
 zl T F (λvs hv=>BQ T.s T.fn hv) (hr.mono hk) hg hx ha hn hdb he hpl
noncomputable abbrev Kt(g q:Str)(st:Stmt)(md:Value)(c:Nat):FuncData:=PySem.W.fnOf g q (g8 st) (cj st) (aB st) .none .none .none md none (.ref c) .none
theorem wY.mk'{K:Frag}{mg:Str->Option Value}{h:Heap}(X:K.In h)(G:h.Ns mainGlobals mg){L fL:Addr}{st:Stmt}{md:Value}{c:Nat} (e1:nsIn K mainGlobals "LoadError"=some (some (.ref L))) (e2:readsIn K L (.type "type")=true) (e3:specialIn K (.ref L) "__getattribute__"=some (some (.builtin "type.__getattribute__")))
  (e4:findCls K (.ref L) (.type "type") "__init__"=some (.val (.ref fL))) (e5:K.lookup fL=some ⟨.type "function",none,.func (Kt "__init__" "LoadError.__init__" st md c),#[]⟩) (e6:codeIn K (.ref c) "LoadError.__init__"=true) (e7:keepIn K (.ref fL)=true)
  (e8:∀(kV doc pm:Value)(an:Option Addr)(cdv ct:Value)(us:List Value),us.length=2->bindArgs (PySem.W.fnOf "__init__" "LoadError.__init__" (g8 st) (cj st) (aB st) .none kV doc pm an cdv ct) ⟨us,[]⟩=pure ((["self","text"]:List Str).zip us)):wY K mg L fL (Kt "__init__" "LoadError.__init__" st md c) st :=
 ⟨mg_of X G e1,e2,e3,e4,nL e5 e6 e7,(nL e5 e6 e7).binds e8⟩
theorem XT.mk'{K:Frag}{mg:Str->Option Value}{h:Heap}(X:K.In h)(G:h.Ns mainGlobals mg){c:Str}{C fI:Addr}{fd:FuncData}{ps ns:List Str}(e1:nsIn K mainGlobals c=some (some (.ref C)))(e2:g9 K c C=true)(e3:BK K C fI=true)(b:jE K fd ps [])(e4:keepIn K (.ref C)=true)(e5:(ns.all λf=>findIn K (.ref C) f == some none)=true):XT K mg c C fI fd ps ns :=
 ⟨mg_of X G e1,e2,D6 e3,b,e4,λf hf=>On.mp (Nq.mp e5 f hf)⟩
theorem XH.mk'{K:Frag}{mg:Str->Option Value}{h:Heap}(X:K.In h)(G:h.Ns mainGlobals mg){c:Str}{C:Addr}(e1:nsIn K mainGlobals c=some (some (.ref C)))(e2:((clsIn K C).any λcd=>cd.name == c)=true) (e3:typeIn K (.ref C)=some (.type "type")) (e4:mroIn K C (.type "BaseException")=some true):XH K mg c C :=
 ⟨mg_of X G e1,e1,(let ⟨cd,h1,h2⟩:=any_some e2;⟨cd,h1,On.mp h2⟩),e3,e4⟩
theorem zv{K:Frag}:∀vs H Q E,FF K vs H Q E->vs.length=2:=λ_ _ _ _ ⟨_,_,_,_,_,_,e,_⟩=>by rw[e];rfl
theorem zw{K:Frag}{ns:List Str}:∀vs H Q E,Ea K ns vs H Q E->vs.length=ns.length+1:=λ_ _ _ _ ⟨_,_,_,_,_,_,e,_,_,_,l,_⟩=>by rw[e,MY,l]
end
end L2
namespace L2
open PySem PySem.Spec PyProof.Rows
section
variable{κ:Type}[DecidableEq κ]
noncomputable def Av(kvs:List (κ×V))(k:κ):Option V:=(kvs.find? λkv=>decide (kv.1=k)).map (·.2)
noncomputable def Aw(kvs:List (κ×V))(k:κ)(v:V):List (κ×V) :=
 if(kvs.any λkv=>decide (kv.1=k))=true then kvs.map (λkv=>if kv.1=k then(kv.1,v)else kv)else kvs++[(k,v)]
theorem t4{p:κ×V}{r:List (κ×V)}{k:κ}(e:p.1=k):Av (p::r) k=some p.2:=by simp[Av,List.find?_cons,e]
theorem t5{p:κ×V}{r:List (κ×V)}{k:κ}(e:¬p.1=k):Av (p::r) k=Av r k:=by simp[Av,List.find?_cons,e]
theorem rY(kvs:List (κ×V))(k:κ)(v:V):(Aw kvs k v).length<=kvs.length+1:=by
 unfold Aw;split
 . rw[MD];omega
 . rw[MK,MY,NY];omega
theorem qY.isSome_eq{o:Option V}{u:Option Value}(r:qY o u):o.isSome=u.isSome:=by
 cases o with
 | none=>cases u with
  |none=>rfl
  |some _=>exact(show False from r).elim
 | some _=>cases u with
  |none=>exact(show False from r).elim
  |some _=>rfl
theorem KV.val{kvs:List (κ×V)}{vs:List (κ×Value)}(r:KV kvs vs)(k:κ):qY (Av kvs k) (valueAt vs k):=by
 unfold KV at r
 induction r with
 |nil=>exact True.intro
 | @cons p q ps qs h t ih =>
  obtain⟨h1,h2⟩:=h;by_cases e:p.1=k
  .
   have e':q.1=k:=h1.symm.trans e;have b:valueAt (q::qs) k=some q.2:=by simp[valueAt,List.find?_cons,e']
   rw[t4 e,b];exact h2
  .
   have e':¬q.1=k:=λz=>e (h1.trans z);have b:valueAt (q::qs) k=valueAt qs k:=by simp[valueAt,List.find?_cons,e']
   rw[t5 e,b];exact ih
theorem KV.any{kvs:List (κ×V)}{vs:List (κ×Value)}(r:KV kvs vs)(k:κ):(kvs.any λkv=>decide (kv.1=k))=vs.any λkv=>decide (kv.1=k):=by
 unfold KV at r
 induction r with
 |nil=>rfl
 |cons h t ih=>rw[List.any_cons,List.any_cons,ih,h.1]
theorem KV.repl{kvs:List (κ×V)}{vs:List (κ×Value)}(r:KV kvs vs)(k:κ){y:V}{u:Value}(ry:bF y u) :
  KV (kvs.map λkv=>if kv.1=k then(kv.1,y)else kv) (vs.map λkv=>if kv.1=k then(kv.1,u)else kv):=by
 unfold KV at r ⊢
 induction r with
 |nil=>exact .nil
 | @cons p q ps qs h t ih =>
  rw[MN,MN];refine .cons ?_ ih;obtain⟨h1,h2⟩:=h;by_cases e:p.1=k
  . rw[if_pos e,if_pos (h1.symm.trans e)];exact⟨h1,ry⟩
  . rw[if_neg e,if_neg (λz=>e (h1.trans z))];exact⟨h1,h2⟩
theorem KV.put{kvs:List (κ×V)}{vs:List (κ×Value)}(r:KV kvs vs)(k:κ){y:V}{u:Value}(ry:bF y u):KV (Aw kvs k y) (stored vs k u):=by
 unfold Aw stored;rw[r.any k];by_cases e:(vs.any λkv=>decide (kv.1=k))=true
 . rw[if_pos e,if_pos e];exact r.repl k ry
 . rw[if_neg e,if_neg e];exact Paired.snoc r ⟨rfl,ry⟩
theorem KV.length{kvs:List (κ×V)}{vs:List (κ×Value)}(r:KV kvs vs):kvs.length=vs.length:=Paired.length r
end
theorem uX{P:Program}{w:World}{k:IG}{u:Value}(r:bF (kV k) u):(cf P w).is k u=true:=by
 cases k with
 |inl i=>obtain⟨t,e⟩:=(show ∃t,u=Value.int i t from r);subst e;exact qW P w i t
 |inr x=>obtain⟨t,e⟩:=(show ∃t,u=Value.str x t from r);subst e;exact qX P w x t
def He(i:Expr):Prop:=∀ov iv,subscripted i false ov iv=operate [ov,iv] (getItem ov iv)
theorem BU{prog:Program}{w:World}{A:Around}{E:Value->Shared->Prop}{s:Shared}{env:Env}{value slice:Expr}{pos:Pos}{T id:String}{Q:Value->Shared->Prop}
  (hl:typeLookup (.type T) "__getitem__"=pure (some (.builtin id))) (hs:He slice)
  (h:wpAny (model prog w) A (eval value env) (λo s₁=>wpAny (model prog w) A (eval slice env) (λi s₂=>s₂.TypeIs o T/\wpAny (model prog w) A (getItem o i) Q E s₂) E s₁) E s) :
  wpAny (model prog w) A (eval (.Subscript value slice pos) env) Q E s:=by
 refine Subscript_ (Np h (λo s₁ h₁=>Np h₁ (λi s₂ h₂=>?_) λ_ _ x=>x) λ_ _ x=>x);obtain⟨hT,h₂⟩:=h₂;unfold subscriptTail;refine kS ?_;rw[getitemInPython_of_ne hT.not_modules];refine kS (wpAny_specialOf hT hl ?_);have IV:wpAny (model prog w) A (subscripted slice false o i) (λr s₃=>wpAny (model prog w) A (letTemporaryGo value o r >>= λ_=>pure r) Q E s₃) E s₂:=by rw[hs o i];exact wpAny_operating (Np h₂ (λr s₃ h₃=>kS (wpAny_letTemporaryGo (MB h₃))) λ_ _ x=>x)
 first
  |exact MB (kS IV)
  |exact kS (MB (kS IV))
  |exact kS IV
abbrev DR(K:PySem.W.Frag)(H:Hp):List (IG×V)->List (IG×D)->Prop:=Paired λ(p:IG×V) (q:IG×D)=>p.1=q.1/\Jx K H p.2 q.2
noncomputable def rZ(kvs:List (IG×D))(k:IG):Option D:=match kvs with
 |[]=>none
 |p::r=>if p.1=k then some p.2 else rZ r k
noncomputable def BV(kvs:List (IG×D))(k:IG)(d:D):List (IG×D):=if(kvs.any λp=>decide (p.1=k))=true then kvs.map (λp=>if p.1=k then(p.1,d)else p)else kvs++[(k,d)]
theorem DR.val{K:PySem.W.Frag}{H:Hp}{k:IG}:∀{vs:List (IG×V)}{kvs:List (IG×D)},DR K H vs kvs->(rZ kvs k=none/\Av vs k=none)∨∃d v,rZ kvs k=some d/\Av vs k=some v/\Jx K H v d
 |_,_,.nil=>.inl ⟨rfl,rfl⟩
 | p::vs,q::kvs,.cons h t=>by
  by_cases e:p.1=k
  . refine .inr ⟨q.2,p.2,?_,t4 e,h.2⟩;unfold rZ;rw[if_pos (h.1.symm.trans e)]
  . have e':¬q.1=k:=λz=>e (h.1.trans z);rw[t5 e];unfold rZ;rw[if_neg e'];exact DR.val t
theorem DR.any{K:PySem.W.Frag}{H:Hp}{k:IG}:∀{vs:List (IG×V)}{kvs:List (IG×D)},DR K H vs kvs->(vs.any λp=>decide (p.1=k))=kvs.any λp=>decide (p.1=k)
 |_,_,.nil=>rfl
 |p::vs,q::kvs,.cons h t=>by rw[List.any_cons,List.any_cons,DR.any t,h.1]
theorem DR.repl{K:PySem.W.Frag}{H:Hp}{k:IG}{v:V}{d:D}(r:Jx K H v d):∀{vs:List (IG×V)}{kvs:List (IG×D)},DR K H vs kvs->DR K H (vs.map λp=>if p.1=k then(p.1,v)else p) (kvs.map λp=>if p.1=k then(p.1,d)else p)
 |_,_,.nil=>.nil
 | p::vs,q::kvs,.cons h t=>by
  rw[MN,MN];refine .cons ?_ (DR.repl r t);by_cases e:p.1=k
  . rw[if_pos e,if_pos (h.1.symm.trans e)];exact⟨h.1,r⟩
  . rw[if_neg e,if_neg λz=>e (h.1.trans z)];exact h
theorem DR.put{K:PySem.W.Frag}{H:Hp}{k:IG}{v:V}{d:D}{vs:List (IG×V)}{kvs:List (IG×D)}(h:DR K H vs kvs)(r:Jx K H v d):DR K H (Aw vs k v) (BV kvs k d):=by
 unfold Aw BV;rw[h.any];split
 . exact h.repl r
 . exact Paired.app h (.cons ⟨rfl,r⟩ .nil)
theorem DR.pres{K:PySem.W.Frag}{H H':Hp}(p:m8 H H'){vs:List (IG×V)}{kvs:List (IG×D)}(h:DR K H vs kvs):DR K H' vs kvs:=Paired.mapP h λ_ _ z=>⟨z.1,z.2.pres p⟩
def mD(d:D)(k:IG->Prop):Prop:=match d with
 |.int i=>k (.inl i)
 |.str x=>k (.inr x)
 |_=>False
theorem oW{K:PySem.W.Frag}{H:Hp}{v:V}{d:D}{u:Value}{k:IG->Prop}(h:mD d k)(r:Jx K H v d)(rv:bF v u):∃key,v=kV key/\bF (kV key) u/\k key:=by
 cases r with
 |int i=>exact⟨.inl i,rfl,rv,h⟩
 |str x=>exact⟨.inr x,rfl,rv,h⟩
 |_=>exact h.elim
def t6(i:Nat)(Z:Ev)(k:Addr->List (IG×D)->Prop):Prop:=match Z[i]? with
 |some (.dic a kvs)=>k a kvs
 |_=>False
theorem mE{i:Nat}{Z:Ev}{k:Addr->List (IG×D)->Prop}(h:t6 i Z k):∃a kvs,Z[i]?=some (.dic a kvs)/\k a kvs:=by
 unfold t6 at h
 cases q:Z[i]? with
 |none=>rw[q]at h;exact h.elim
 | some l =>
  rw[q]at h
  cases l with
  |dic a kvs=>exact⟨a,kvs,rfl,h⟩
  |_=>exact h.elim
section
variable{K:PySem.W.Frag}{Pr H:Hp}{σ:St}{Z:Ev}{a:Addr}{kvs ks:List (IG×D)}
theorem ay.dicAt{i:Nat}(E:ay K Pr H σ Z)(q:Z[i]?=some (.dic a kvs)):σ[i]?=some (some (.ref a))/\∃vs,H a=some (.dK vs)/\DR K H vs kvs:=by obtain⟨sv,hs,sl⟩:=E.slot q;unfold aT at sl;obtain⟨rfl,r⟩:=sl;exact⟨hs,r⟩
theorem cy:owns (.dic a kvs::Z)=a::owns Z:=rfl
theorem ay.cons_dic(E:ay K Pr H σ Z){vs:List (IG×V)}(h:H a=none)(r:DR K H vs kvs):ay K Pr (IH H a (.dK vs)) (some (.ref a)::σ) (.dic a kvs::Z):=by
 have E':=E.new (o:=.dK vs) h;refine⟨E'.sub,?_,λb hb=>?_,.cons ?_ E'.sl⟩
 . rw[cy];refine MQ.mpr ⟨λhm=>?_,E.nd⟩;obtain⟨us,e,_⟩:=E.at_own hm;rw[h]at e;cases e
 .
  rw[cy]at hb;rcases MC.mp hb with rfl|hb
  .
   cases q:Pr b with
   |none=>rfl
   |some u=>rw[E.sub b u q]at h;cases h
  . exact E.off b hb
 . unfold aT;exact⟨rfl,vs,aG,r.pres λb u _ e=>by rw[ar (aQ e h)];exact e⟩
theorem ay.writeD(E:ay K Pr H σ (.dic a kvs::Z)){vs:List (IG×V)}(r:DR K H vs ks):ay K Pr (IH H a (.dK vs)) σ (.dic a ks::Z):=by
 have pa:Pr a=none:=E.off a (by rw[cy];exact Mw);have nd:=E.nd;rw[cy]at nd;obtain⟨hn,nd'⟩:=MQ.mp nd;obtain⟨us,ha,mu⟩:=E.at_own (a:=a) (by rw[cy];exact Mw);have p:m8 H (IH H a (.dK vs)):=λb u pu e=>by rw[ar];exact e;rintro rfl;rw[ha]at e;cases e;exact mu.no pu
 refine⟨λb u e=>?_,nd,λb hb=>E.off b hb,?_⟩
 . rw[ar];exact E.sub b u e;rintro rfl;rw[pa]at e;cases e
 .
  have sl:=E.sl
  cases sl with
  | cons q t =>
   unfold aT at q;obtain⟨e,_⟩:=q;refine .cons ?_ (Paired.impMem t λl hl s z=>z.pres p l λb hbm=>?_)
   . unfold aT;exact⟨e,vs,aG,r.pres p⟩
   . rw[ar];rintro rfl;exact hn (eM.mpr ⟨l,hl,hbm⟩)
theorem ay.updDic{i:Nat}(E:ay K Pr H σ Z)(q:Z[i]?=some (.dic a kvs)){vs:List (IG×V)}(r:DR K H vs ks):ay K Pr (IH H a (.dK vs)) σ (Z.set i (.dic a ks)):=by have hs:=(E.dicAt q).1;have hi:i<Z.length:=(Mx.mp q).1;have E1:=(E.outL q hs).writeD r;have E2:=E1.back (i:=i) (by simp[hi]) hs;rw[NU]at E2;exact E2
end
section
variable{X:Cx}{b e:Expr}{pos p:Pos}{tb te:W L}{x:Str}
theorem IR.dicOk{gV:List (Addr×Obj)}{σ:St}{H:Hp}{s:Shared}{a:Addr}{vs:List (IG×V)}(I:IR X gV σ H s)(h:H a=some (.dK vs)):vs.length<=sizeLine/\(a == sysModules)=false/\∃us,KV vs us/\s.heap.DictOf (cf X.prog X.w) a us:=I.hok a _ h
def Eg(i:Nat)(tb:W L):W L:=λZ p4=>t6 i Z λ_ _=>tb Z λr Z1=>JA r λkd=>mD kd λkey=>t6 i Z1 λ_ kvs=>∃y,rZ kvs key=some y/\p4 (.d y) Z1
theorem Gi(i:Nat)(hb:PL X b tb)(hs:He b)(hN:X.N[i]?=some x:=by rfl)(hv:IP X.env.scope x:=by first | exact Or.inl rfl | exact Or.inr (Or.inl rfl) | exact Or.inr (Or.inr rfl)) (hd:(x == ("__debug__" : Str))=false:=by decide)
  (hcd:(x == ("__classdict__" : Str))=false:=by decide):PL X (.Subscript (.Name x p) b pos) (Eg i tb):=by
 intro gV s σ H Pr Z p4 I E h;obtain⟨a,kvs0,q0,h⟩:=mE h;have hσ:=(E.dicAt q0).1;refine BU PySem.F.slot_dict_getitem.lookup hs (IT (cm hN hv hd hcd gV s σ H (λv H'=>v=.ref a/\H=H') I ⟨_,hσ,rfl,rfl⟩) λu s1 ⟨y,H1,I1,rx,e1,e2⟩=>?_);subst e1 e2;cases rx;refine IT (hb gV s1 σ H Pr Z _ I1 E h) λu2 s2 q=>?_;obtain⟨v,H2,kd,Z2,I2,r2,E2,q2⟩:=EL.frz (p4:=λkd Z1=>mD kd λkey=>t6 i Z1 λ_ kvs=>∃y,rZ kvs key=some y/\p4 (.d y) Z1) q;obtain⟨_,e1,p1⟩:=E2.head_d;cases e1;obtain⟨key,rfl,r3,q3⟩:=oW q2 p1 r2;obtain⟨a',kvs,qd,y,hy,q4⟩:=mE q3;obtain⟨hσ',vs,hl,r⟩:=E2.tail.dicAt qd;rw[hσ]at hσ';cases hσ';obtain⟨_,_,us,rel,dd⟩:=I2.dicOk hl;rcases r.val (k:=key)with⟨z,_⟩|⟨d,w,z1,z2,z3⟩
 . rw[hy]at z;cases z
 . rw[hy]at z1;cases z1;obtain⟨w',hw,rw'⟩:=qY.some_of (v:=w) (o:=valueAt us key) (by rw[<- z2];exact rel.val key);exact⟨dd.typeIs,wpAny_getItem_of (uX r3) dd.mapOf hw ⟨w,H2,_,Z2,I2.tok _,rw',E2.tail.cons_d z3,q4⟩⟩
def Gj(neg:Bool)(i:Nat)(tb:W L):W L:=λZ p4=>tb Z λr Z1=>JA r λkd=>mD kd λkey=>t6 i Z1 λ_ kvs=>p4 (.d (.bl (if neg then !(rZ kvs key).isSome else(rZ kvs key).isSome))) Z1
theorem BW{gV:List (Addr×Obj)}{σ:St}{H Pr:Hp}{s:Shared}{Z:Ev}{i:Nat}{α:Type}{Q:α->Shared->Prop}{f:Value->Value->Sem α}{R:Bool->Ev->Prop}(hb:PL X b tb)(hN:X.N[i]?=some x)(hv:IP X.env.scope x) (hd:(x == ("__debug__" : Str))=false) (hcd:(x == ("__classdict__" : Str))=false) (I:IR X gV σ H s) (E:ay X.K Pr H σ Z)
  (h:tb Z λr Z1=>JA r λkd=>mD kd λkey=>t6 i Z1 λ_ kvs=>R (rZ kvs key).isSome Z1)
  (hf:∀(u:Value)(a:Addr)(key:IG)(s2:Shared)(H2:Hp)(Z2:Ev)(us:List (IG×Value))(c:Bool),IR X gV σ H2 s2->ay X.K Pr H2 σ Z2->bF (kV key) u->(a == sysModules)=false->s2.heap.DictOf (cf X.prog X.w) a us->(valueAt us key).isSome=c->R c Z2->wpAny (model X.prog X.w) X.A (f u (.ref a)) Q X.xe s2) :
  wpAny (model X.prog X.w) X.A (eval b X.env) (λv s₁=>wpAny (model X.prog X.w) X.A (eval (.Name x p) X.env) (λu s₂=>wpAny (model X.prog X.w) X.A (f v u) Q X.xe s₂) X.xe s₁) X.xe s:=by
 refine IT (hb gV s σ H Pr Z _ I E h) λu s1 q=>?_;obtain⟨v,H2,kd,Z2,I2,r2,E2,q2⟩:=EL.frz (p4:=λkd Z1=>mD kd λkey=>t6 i Z1 λ_ kvs=>R (rZ kvs key).isSome Z1) q;obtain⟨_,e1,p1⟩:=E2.head_d;cases e1;obtain⟨key,rfl,r3,q3⟩:=oW q2 p1 r2;obtain⟨a,kvs,qd,q4⟩:=mE q3;obtain⟨hσ,vs,hl,r⟩:=E2.tail.dicAt qd;refine IT (cm hN hv hd hcd gV s1 σ H2 (λv H'=>v=.ref a/\H2=H') I2 ⟨_,hσ,rfl,rfl⟩) λu2 s2 ⟨y,H3,I3,rx,e1,e2⟩=>?_;subst e1 e2;cases rx;obtain⟨_,hS,us,rel,dd⟩:=I3.dicOk hl;refine hf u a key s2 H2 Z2 us _ I3 E2.tail r3 hS dd ?_ q4;rw[<- (rel.val key).isSome_eq];rcases r.val (k:=key)with⟨z,z'⟩|⟨d,w,z1,z2,z3⟩
 . rw[z,z'];rfl
 . rw[z1,z2];rfl
theorem Eh(i:Nat)(hb:PL X b tb)(hm:behindInMarks .In (.Name x p)=false)(hN:X.N[i]?=some x:=by rfl)(hv:IP X.env.scope x:=by first | exact Or.inl rfl | exact Or.inr (Or.inl rfl) | exact Or.inr (Or.inr rfl)) (hd:(x == ("__debug__" : Str))=false:=by decide)
  (hcd:(x == ("__classdict__" : Str))=false:=by decide):PB X (.Compare b [.In] [.Name x p] pos) (aY (Gj false i tb)):=λgV s σ H Pr Z p4 I E h =>
 wpAny_isTrue_Compare1 (BW (R:=λc Z1=>p4 c Z1) hb hN hv hd hcd I E h λu a key s2 H2 Z2 us c I2 E2 r3 hS dd e q=>wpAny_in_of (uX r3) hS dd.mapOf (by rw[e];exact Na ⟨H2,Z2,I2.tok _,E2,q⟩)) hm
def BX(i:Nat)(tb te:W L):W Fl:=λZ p4=>te Z λr Z1=>JA r λy=>t6 i Z1 λ_ _=>tb Z1 λr Z2=>JA r λkd=>mD kd λkey=>t6 i Z2 λa kvs=>kvs.length<sizeLine/\p4 .nx (Z2.set i (.dic a (BV kvs key y)))
theorem BY(i:Nat){ps:Pos}(hb:PL X b tb)(he:PL X e te)(hN:X.N[i]?=some x:=by rfl)(hv:IP X.env.scope x:=by first | exact Or.inl rfl | exact Or.inr (Or.inl rfl) | exact Or.inr (Or.inr rfl)) (hd:(x == ("__debug__" : Str))=false:=by decide)
  (hcd:(x == ("__classdict__" : Str))=false:=by decide) (hs:swapsWith e (some (.Subscript (.Name x p) b ps)) pos.line X.env=pure false:=by rfl):PM X (.Assign [.Subscript (.Name x p) b ps] e pos) (BX i tb te):=by
 intro gV s σ H Pr Z p4 I E h;refine wpAny_Assign_Subscript (IT (he gV s σ H Pr Z _ I E h) λr s1 q=>?_) hs;obtain⟨v,H1,y,Z1,I1,rv,E1,q1⟩:=EL.frz (p4:=λy Z1=>t6 i Z1 λ_ _=>tb Z1 λr Z2=>JA r λkd=>mD kd λkey=>t6 i Z2 λa kvs=>kvs.length<sizeLine/\p4 .nx (Z2.set i (.dic a (BV kvs key y)))) q;obtain⟨a,kvs0,q0,q1⟩:=mE q1;have hσ:=(E1.tail.dicAt q0).1;refine IT (cm hN hv hd hcd gV s1 σ H1 (λv H'=>v=.ref a/\H1=H') I1 ⟨_,hσ,rfl,rfl⟩) λu2 s2 ⟨z,H2,I2,rx,e1,e2⟩=>?_;subst e1 e2;cases rx;refine IT (hb gV s2 σ H1 _ Z1 _ I2 E1.tail.wide q1) λu3 s3 q=>?_;obtain⟨kv,H3,kd,Z3,I3,r3,E3,q3⟩:=EL.frz (p4:=λkd Z2=>mD kd λkey=>t6 i Z2 λa kvs=>kvs.length<sizeLine/\p4 .nx (Z2.set i (.dic a (BV kvs key y)))) q;obtain⟨_,e1,p1⟩:=E3.head_d;cases e1;obtain⟨key,rfl,r4,q4⟩:=oW q3 p1 r3;obtain⟨a',kvs,qd,kz,q5⟩:=mE q4;have E4:ay X.K Pr H3 (some (kV key)::some v::σ) (.d kd::.d y::Z3):=ay.step (τ:=[some v]) (lam:=[.d y]) (w:=[some (kV key)]) (μ:=[.d kd]) E1 rfl E3 rfl;obtain⟨hσ',vs,hl,r⟩:=E4.tail.tail.dicAt qd;rw[hσ]at hσ';cases hσ';obtain⟨_,e2,p2⟩:=E4.tail.head_d;cases e2;obtain⟨z,hS,us,rel,dd⟩:=I3.dicOk hl;have hz:us.length<=sizeLine:=by rw[<- rel.length];exact z
 have hk:vs.length=kvs.length:=Paired.length r;have hl':(Aw vs key v).length<=sizeLine:=by have:=rY vs key v;omega
 refine wpAny_setItem_pairs (hsz:=hz) (uX r4) dd λh' dd' hsb=>?_
 have he':∃q,h'.get? a=some q:=let ⟨q,_,_,hq,_⟩:=dd';⟨q,hq⟩
 exact⟨σ,_,_,I3.write (x:=a) (e:=a) (t':=_) (by rw[hl];exact True.intro) (.inl rfl) (λb q hb z=>(hsb.2 b hb).trans z) he' (show cg X.prog X.w _ _ _ (.dK (Aw vs key v))from⟨hl',hS,_,rel.put key rv,dd'⟩),E4.tail.tail.updDic qd (r.put p2),q5⟩
def Gk(kvs:List (IG×D)):W L:=λZ p4=>∀a,p4 (.dic a kvs) Z
theorem BZ:PL X (.Dict [] [] pos) (Gk []):=by intro gV s σ H Pr Z p4 I E hq;have hf:H s.heap.objs.size=none:=I.hok.fresh (ME _);have I1:=I.laid (a:=s.heap.objs.size) (o:=.dK []) (h':=s.heap.push {cls:=.type "dict",data:=.dict #[] }) (t':=s.toks) (λ_ _ q=>tu _ q) (ME _) ⟨NW _,I.past,[],.nil,Heap.DictOf.new s.heap⟩;exact wpAny_Dict_empty ⟨.ref s.heap.objs.size,_,_,Z,I1,rfl,E.cons_dic (kvs:=[]) hf .nil,hq _⟩
noncomputable def flatC:D->Bool
 |.int _=>true
 |.str _=>true
 |.bl _=>true
 |.non=>true
 |_=>false
theorem Jx.flatC{K:PySem.W.Frag}{H H':Hp}{v:V}{d:D}(h:L2.flatC d=true)(r:Jx K H v d):Jx K H' v d:=by
 cases r with
 |int i=>exact .int i
 |str i=>exact .str i
 |bl i=>exact .bl i
 |non=>exact .non
 |_=>cases h
inductive Ku (X:Cx):List (Option Expr)->List Expr->List (IG×D)->Prop where
 |nil:Ku X [] [] []
 |int {k v:Expr} {ks:List (Option Expr)} {vs:List Expr} {i:Int} {d:D} {kvs:List (IG×D)} (hk:PL X k (wC (.int i))) (hv:PL X v (wC d)) (hf:flatC d=true) (t:Ku X ks vs kvs):Ku X (some k::ks) (v::vs) ((.inl i,d)::kvs)
 |str {k v:Expr} {ks:List (Option Expr)} {vs:List Expr} {y:Str} {d:D} {kvs:List (IG×D)} (hk:PL X k (wC (.str y))) (hv:PL X v (wC d)) (hf:flatC d=true) (t:Ku X ks vs kvs):Ku X (some k::ks) (v::vs) ((.inr y,d)::kvs)
theorem Ku.run{pos:Pos}{gV:List (Addr×Obj)}{σ:St}{Pr:Hp}{Z:Ev}:∀{ks:List (Option Expr)}{vs:List Expr}{kvs:List (IG×D)},Ku X ks vs kvs->∀{H:Hp}{s:Shared}{Q:List (Value×Value)->Shared->Prop},IR X gV σ H s->ay X.K Pr H σ Z ->
  (∀(H':Hp)(s':Shared)(us:List (Value×Value))(ps:List (IG×V))(qs:List (IG×Value)),IR X gV σ H' s'->ay X.K Pr H' σ Z->Carries (cf X.prog X.w) us qs->KV ps qs->DR X.K H' ps kvs->Q us s') ->
  wpAny (model X.prog X.w) X.A (evalPairs (pairTrees ks vs X.env pos)) Q X.xe s
 |_,_,_,.nil,H,s,Q,I,E,h=>pairTrees_nil_walk (h H s [] [] [] I E True.intro .nil .nil)
 | _,_,_,.int (d:=d) hk hv hf t,H,s,Q,I,E,h=>by refine pairTrees_cons_walk (IT (hk gV s σ H Pr Z (λr Z'=>r=.d _/\Z'=Z) I E ⟨rfl,rfl⟩) λu s1 ⟨v,H1,r,Z',I1,rv,E1,e1,e2⟩=>?_);subst e1 e2;refine IT (hv gV s1 σ H1 Pr _ (λr Z'=>r=.d d/\Z'=_) I1 E1.tail ⟨rfl,rfl⟩) λu2 s2 ⟨v2,H2,r2,Z2,I2,rv2,E2,e1,e2⟩=>?_;subst e1 e2;obtain⟨_,z1,p1⟩:=E1.head_d;cases z1;cases p1;obtain⟨_,z2,p2⟩:=E2.head_d;cases z2;exact Ku.run t I2 E2.tail λH' s' us ps qs I3 E3 hc hk3 hd=>h H' s' ((u,u2)::us) ((.inl _,v2)::ps) ((.inl _,u2)::qs) I3 E3 ⟨uX rv,rfl,hc⟩ (.cons ⟨rfl,rv2⟩ hk3) (.cons ⟨rfl,p2.flatC hf⟩ hd)
 | _,_,_,.str (d:=d) hk hv hf t,H,s,Q,I,E,h=>by refine pairTrees_cons_walk (IT (hk gV s σ H Pr Z (λr Z'=>r=.d _/\Z'=Z) I E ⟨rfl,rfl⟩) λu s1 ⟨v,H1,r,Z',I1,rv,E1,e1,e2⟩=>?_);subst e1 e2;refine IT (hv gV s1 σ H1 Pr _ (λr Z'=>r=.d d/\Z'=_) I1 E1.tail ⟨rfl,rfl⟩) λu2 s2 ⟨v2,H2,r2,Z2,I2,rv2,E2,e1,e2⟩=>?_;subst e1 e2;obtain⟨_,z1,p1⟩:=E1.head_d;cases z1;cases p1;obtain⟨_,z2,p2⟩:=E2.head_d;cases z2;exact Ku.run t I2 E2.tail λH' s' us ps qs I3 E3 hc hk3 hd=>h H' s' ((u,u2)::us) ((.inr _,v2)::ps) ((.inr _,u2)::qs) I3 E3 ⟨uX rv,rfl,hc⟩ (.cons ⟨rfl,rv2⟩ hk3) (.cons ⟨rfl,p2.flatC hf⟩ hd)
theorem Ku.len:∀{ks:List (Option Expr)}{vs:List Expr}{kvs:List (IG×D)},Ku X ks vs kvs->ks.all (·.isSome)=true/\ks.length=vs.length/\ks.length=kvs.length
 |_,_,_,.nil=>⟨rfl,rfl,rfl⟩
 | _,_,_,.int _ _ _ t=>by obtain⟨h1,h2,h3⟩:=t.len;simp[h1,h2,<- h3]
 | _,_,_,.str _ _ _ t=>by obtain⟨h1,h2,h3⟩:=t.len;simp[h1,h2,<- h3]
end
end L2
namespace L2
open PySem PySem.Spec PyProof.Rows PySem.SeqAt
mutual
noncomputable def xc:Nat->D->Bool
 |_,.non=>true
 |_,.bl _=>true
 |_,.int _=>true
 |_,.str _=>true
 |n+1,.tup xs=>r6 n xs
 |n+1,.lst xs=>r6 n xs
 |n+1,.dct m=>m == 0
 |_,_=>false
noncomputable def r6:Nat->List D->Bool
 |_,[]=>true
 |n,x::xs=>xc n x && r6 n xs
end
mutual
noncomputable def vp:D->Nat
 |.int _=>602
 |.str x=>10*x.length+2
 |.tup xs=>uY xs+3
 |.lst xs=>uY xs+3
 |_=>6
noncomputable def uY:List D->Nat
 |[]=>0
 |x::xs=>vp x+2+uY xs
end
mutual
theorem xf:∀d:D,(JM d).leavesShort 601=true->(JM d).shown.length<=vp d
 |.non,_=>by decide
 |.bl b,_=>by cases b<;>decide
 | .int i,h=>by
  have e:(PyData.shown (.int i)).length<=601:=by simpa only[JM,PyData.leavesShort,Nr]using h
  exact Nat.le_succ_of_le e
 | .str x,h=>by
  have hx:∀c∈x.cps.toList,c<16^8:=by simpa only[JM,PyData.leavesShort,Nq,Nr]using h
  have e:=PySem.StrLaws.reprText_len x hx
  simp only[JM,PyData.shown,vp]
  omega
 | .tup xs,h=>by
  have h1:=r9 xs (by simpa only[JM,PyData.leavesShort]using h)
  have h2:=tupleText_len_le (PyData.shownAll (fT xs))
  have h3:=PyData.shownAll_length (fT xs)
  simp only[JM,PyData.shown,vp]
  omega
 | .lst xs,h=>by
  have h1:=r9 xs (by simpa only[JM,PyData.leavesShort]using h)
  have h2:=listText_len_le (PyData.shownAll (fT xs))
  have h3:=PyData.shownAll_length (fT xs)
  simp only[JM,PyData.shown,vp]
  omega
 |.dct _,_=>by simp only[JM,vp];decide
 |.exc _ _ _,_=>by simp only[JM,vp];decide
 |.fn _ _,_=>by simp only[JM,vp];decide
 |.dk _ _,_=>by simp only[JM,vp];decide
 |.gf _,_=>by simp only[JM,vp];decide
theorem r9:∀ds:List D,PyData.leavesShortAll 601 (fT ds)=true->((PyData.shownAll (fT ds)).map (·.length)).sum+2*(fT ds).length<=uY ds
 |[],_=>by simp only[fT,PyData.shownAll,List.map_nil,List.sum_nil,NY,uY];omega
 | d::ds,h=>by
  have h':(JM d).leavesShort 601=true/\PyData.leavesShortAll 601 (fT ds)=true:=by simpa only[fT,PyData.leavesShortAll,MR]using h
  have h1:=xf d h'.1
  have h2:=r9 ds h'.2
  simp only[fT,PyData.shownAll,MN,List.sum_cons,MY,uY]
  omega
end
structure Gm (d:D):Prop where
 ok:JY 40 d=true
 sh:gH d=true
 ln:(JM d).shown.length<=sizeLine
theorem tP.l{d:D}(h:tP d):Gm d:=⟨h.ok,h.sh,h.len⟩
end L2
namespace L2
open PySem PySem.Spec PyProof.Rows
end L2
namespace L2
open PySem PySem.Spec PyProof.Rows PySem.W
end L2
namespace L2
open PySem PySem.Spec PyProof.Rows
section
variable{X:Cx}{e:Expr}{p apos cpos:Pos}{te:W L}{x:Str}
def xg(i:Nat)(te:W L):W L:=λZ p4=>qT i Z λ_ _=>te Z λr Z1=>JA r λy=>qT i Z1 λa xs=>∃(j:Nat)(z:D),y=.int (j:Int)/\xs.length<2^60/\xs[j]?=some z/\p4 (.d z) (Z1.set i (.own a (xs.eraseIdx j)))
theorem bf.eraseIdx{K:PySem.W.Frag}{H:Hp}:∀{vs:List V}{ds:List D}(j:Nat),bf K H vs ds->bf K H (vs.eraseIdx j) (ds.eraseIdx j)
 |_,_,_,.nil=>by simpa using bf.nil
 |_,_,0,.cons r t=>t
 |_,_,j+1,.cons r t=>.cons r (bf.eraseIdx j t)
theorem zx(i:Nat)(he:PL X e te)(hN:X.N[i]?=some x:=by rfl)(hv:IP X.env.scope x:=by first | exact Or.inl rfl | exact Or.inr (Or.inl rfl) | exact Or.inr (Or.inr rfl)) (hd:(x == ("__debug__" : Str))=false:=by decide)
  (hcd:(x == ("__classdict__" : Str))=false:=by decide) (hs1:starEach [e] X.env=[(false,eval e X.env)]:=by rfl) (hbase:attributeBase (.Name x p) "pop" X.env (eval (.Name x p) X.env)=eval (.Name x p) X.env:=by rfl)
  (hfew:((backTo cpos (starEach [e] X.env)).all (λx=>!x.1) && (backToKw cpos (keywordEach [] X.env)).all (λx=>x.1.isSome)
   && decide (([e]).length+([]:List Keyword).length+(if([]:List Keyword).isEmpty then 0 else 1)<30))=true:=by rfl)
  (hline:(apos.endLine == cpos.line)=true:=by rfl) (hplain:(backTo cpos (starEach ([]:List Expr) X.env)).any (·.1)=false:=by rfl) :
  PL X (.Call (.Attribute (.Name x p) "pop" apos) [e] [] cpos) (xg i te):=by
 refine PL.of (A1 PySem.F.plainAttrs_list PySem.F.slot_list_pop PySem.F.type_list_pop yz (cm hN hv hd hcd) (br (aC he).pe fx hs1) (hbase:=hbase) (hfew:=hfew) (hline:=hline) (hs:=hs1) (hplain:=hplain)) λσ H Pr Z p4 E h=>?_;obtain⟨l,xs0,q0,h⟩:=fZ h;obtain⟨hσ,vs0,hl0,_⟩:=E.ownAt q0
 refine⟨.ref l,hσ,.inl ⟨rfl,vs0,IW.of hl0⟩,Pr,Z,λr Z1=>match r with
  |.d y=>qT i Z1 λa xs=>∃(j:Nat)(z:D),y=.int (j:Int)/\xs.length<2^60/\xs[j]?=some z/\p4 (.d z) (Z1.set i (.own a (xs.eraseIdx j)))
  |_=>False,E,h,λv H' r Z' E' pp=>?_⟩
 cases r with
 | d y =>
  obtain⟨l',xs,q,j,z,rfl,hsm,hz,pp⟩:=fZ pp;obtain⟨hσ',vs,hl,r⟩:=E'.tail.ownAt q;rw[hσ]at hσ';cases hσ';obtain⟨_,e1,p1⟩:=E'.head_d;cases e1;cases p1;obtain⟨v,hv',rv⟩:=r.get hz;have hj:j<vs.length:=(Mx.mp hv').1;have kz:=r.length;have E2:=E'.tail.updOwn q (r.eraseIdx j);refine⟨l,vs,(j:Int),j,v,rfl,rfl,hl,xL,xL,?_,hv',_,_,E2.cons_d (rv.pres λb u hp e=>?_),pp⟩
  .
   unfold seqIndex?;rw[if_neg (show ¬(j:Int)<0 by omega)];have:(decide (0<=(j:Int)) && decide ((j:Int)<(vs.length:Int)))=true:=by simp;omega
   simp only[this,if_true,Int.toNat_natCast]
  .
   by_cases hb:b=l
   . subst hb;rw[hl]at e;cases e;exact hp.elim
   . rw[ar hb];exact e
 |_=>exact pp.elim
end
end L2
namespace L2
open PySem PySem.Spec PyProof.Rows PySem.SeqAt
mutual
noncomputable def Kv:D->Bool
 |.dct n=>n == 0
 |.exc _ _ _=>false
 |.fn _ _=>false
 |.dk _ _=>false
 |.gf _=>false
 |.tup xs=>Ei xs
 |.lst xs=>Ei xs
 |.str x=>PyData.strOk x
 |_=>true
noncomputable def Ei:List D->Bool
 |[]=>true
 |x::xs=>Kv x && Ei xs
end
section
variable{X:Cx}{gV:List (Addr×Obj)}{σ:St}{H:Hp}{s:Shared}
theorem IR.ne_sys(I:IR X gV σ H s){a:Addr}{u:HO}(h:H a=some u):sysModules≠a:=λe=>by obtain⟨mm,o,es,ep,q,_⟩:=I.mod.sysm;subst e;rw[(I.bs _ o q).2]at h;cases h
theorem IR.lst_sys(I:IR X gV σ H s){a:Addr}{xs:List V}(h:Jw X.K H a xs):sysModules≠a:=by
 rcases h with⟨o,h⟩|⟨o,its,n,h,_,_,hd,_⟩
 . exact I.ne_sys h
 . intro e;obtain⟨mm,o',es,ep,q,hd',_⟩:=I.mod.sysm;subst e;rw[I.mod.kin _ o h]at q;cases q;rw[hd]at hd';cases hd'
end
mutual
theorem mF:∀d:D,Kv d=true->gH d=true->(JM d).leavesShort 601=true
 |.non,_,_=>rfl
 |.bl _,_,_=>rfl
 |.dct _,_,_=>rfl
 |.exc _ _ _,h,_=>by simp[Kv]at h
 |.fn _ _,h,_=>by simp[Kv]at h
 |.dk _ _,h,_=>by simp[Kv]at h
 |.gf _,h,_=>by simp[Kv]at h
 | .int i,_,h=>by
  have:=(lU (.int i) h).1
  simpa only[JM,PyData.leavesShort,PyData.intsShort]using this
 |.str x,h,hs=>PyData.leavesShort_of_canLay0 601 (.str x) (by simpa only[Kv,PyData.canLay0]using h) (lU (.str x) hs).1
 | .tup xs,h,hs=>by
  have:=kK xs (by simpa only[Kv]using h) (by simpa only[gH]using hs)
  simpa only[JM,PyData.leavesShort]using this
 | .lst xs,h,hs=>by
  have:=kK xs (by simpa only[Kv]using h) (by simpa only[gH]using hs)
  simpa only[JM,PyData.leavesShort]using this
theorem kK:∀ds:List D,Ei ds=true->ji ds=true->PyData.leavesShortAll 601 (fT ds)=true
 |[],_,_=>rfl
 | d::ds,h,hs=>by
  simp only[Ei,MR]at h
  simp only[ji,MR]at hs
  simp only[fT,PyData.leavesShortAll,mF d h.1 hs.1,kK ds h.2 hs.2,Bool.and_self]
end
structure Hf (d:D):Prop where
 ok:Kv d=true
 sh:gH d=true
 dp:(JM d).depth<=40
 sg:vp d<=16777216
 ni:∀i,d≠.int i
theorem Hf.len{d:D}(h:Hf d):(JM d).shown.length<=sizeLine:=by
 have e:sizeLine=16777216:=by decide
 rw[e];exact MH (xf d (mF d h.ok h.sh)) h.sg
end L2
namespace L2
open PySem PySem.Spec PyProof.Rows
section
def Ej(o:Option L)(i k:Nat)(Z:Ev)(p4:L->Ev->Prop):Prop:=match o with
 |some (.bx none ls)=>∃l,ls[k]?=some l/\p4 l (Z.set i (.bx none (ls.set k .un)))
 |some (.d (.tup ds))=>∃d,ds[k]?=some d/\p4 (.d d) Z
 |_=>False
theorem zy(ls:List L)(i k:Nat)(Z:Ev)(p4:L->Ev->Prop):Ej (some (.bx none ls)) i k Z p4=∃l,ls[k]?=some l/\p4 l (Z.set i (.bx none (ls.set k .un))):=(rfl)
theorem B0(ds:List D)(i k:Nat)(Z:Ev)(p4:L->Ev->Prop):Ej (some (.d (.tup ds))) i k Z p4=∃d,ds[k]?=some d/\p4 (.d d) Z:=(rfl)
end
section
def Gn(r:L)(Z:Ev)(p4:L->Ev->Prop):Prop:=match r with
 |.bx (some _) ls=>p4 (.bx none ls) Z
 |_=>False
theorem zA(a:Addr)(ls:List L)(Z:Ev)(p4:L->Ev->Prop):Gn (.bx (some a) ls) Z p4=p4 (.bx none ls) Z:=(rfl)
end
end L2
namespace L2
open PySem PySem.Spec PyProof.Rows PySem.W
theorem oX{p:Pos}{a b:Int}{c cv:Value}(l:List Value)(h:TriplesOk l)(e:codeAmong p (l++[rawInt a,rawInt b,c])=some cv):codeAmong p l=some cv∨cv=c:=by
 fun_induction TriplesOk l with
 | case1 =>
  simp only[N6,codeAmong,rawInt]at e;split at e
  . cases e;exact .inr rfl
  . cases e
 | case2 a' t b' u x dm ih =>
  simp only[Ol,codeAmong]at e ⊢;split at e
  . rename_i hc;rw[if_pos hc];exact .inl e
  . rename_i hc;rw[if_neg hc];exact ih h e
 |case3 l h1 h2=>exact h.elim
theorem qm{cells:List (Str×Addr)}:∀(names:List (Str×NameKind))(acc:List (Str×Addr)),(names.filter λp=>p.2 == .free)=[]->qa cells names acc=acc
 |[],_,_=>rfl
 | (n,k)::r,acc,h=>by
  rw[List.filter_cons]at h;unfold qa;by_cases hk:(k == NameKind.free)=true
  . rw[if_pos hk]at h;cases h
  . rw[if_neg hk]at h;rw[if_neg hk];exact qm r acc h
theorem t7{cells:List (Str×Addr)}{y:Str}{c:Addr}(hc:cells.lookup y=some c):∀(names:List (Str×NameKind))(acc:List (Str×Addr)),(names.filter λp=>p.2 == .free)=[(y,.free)]->qa cells names acc=(y,c)::acc
 |[],_,h=>by cases h
 | (n,k)::r,acc,h=>by
  rw[List.filter_cons]at h;unfold qa;by_cases hk:(k == NameKind.free)=true
  . rw[if_pos hk]at h;simp only[List.cons.injEq,Prod.mk.injEq]at h;obtain⟨⟨h1,h2⟩,h3⟩:=h;subst h1;rw[if_pos hk,hc];exact qm r _ h3
  . rw[if_neg hk]at h;rw[if_neg hk];exact t7 hc r acc h
section
variable{X:Cx}{gV:List (Addr×Obj)}{σ:St}{H:Hp}{s:Shared}
theorem zB{x:Str}{c0 P c:Addr}{y:Str}{pr:Arguments}{bd:Expr}{sc:Scope}{pos:Pos}{Q:Value->Shared->Prop}{E:Value->Shared->Prop}{A:Around}
  (I:IR X gV σ H s) (hx:x∈lamNames) (ht:tabIn X.K x=some (c0,P)) (hcode:X.env.code=.ref c0) (hq:X.env.qual++"<lambda>"=m6 x) (hcl:closureFor sc X.env=pure [(y,c)]) (hdef:defaultsOf pr X.env=([],[]))
  (h:∀(f c':Addr)(oq:Obj)(H':Hp)(s':Shared)(ctv pm:Value),IR X gV σ H' s'->(∀ b o,H b=some o->H' b=some o)->s'.heap.get? f=some (kla_obj "<lambda>" (m6 x) pr bd sc [(y,c)] pm c' ctv)->H' f=none->s.heap.objs.size<=f ->
   H' c'=some (.frz oq (.own c'))->iP oq (m6 x)->Q (.ref f) s'):wpAny (model X.prog X.w) A (eval (.Lambda pr bd sc pos) X.env) Q E s:=by
 have hP:=I.tbs x hx c0 P ht;obtain⟨ps,eP,tr,among⟩:=id (I.hok P _ hP);have C:CodeHd s.heap c0 P:=(I.ok.mod.cds x hx c0 P ht).keeps I.bk;have hg:s.heap.Ns mainGlobals X.mg:=I.ok.mod.glob.keeps I.bk;obtain⟨bm,ob,b1,b2,b3,b4,b5,b6⟩:=I.ok.mod.bmn;have hbk:=I.bk bm ob b3;have hgP:mainGlobals≠P:=λz=>by obtain⟨o,es,ep,e,hd,_⟩:=hg;rw[z,eP]at e;cases e;cases hd
 have hbP:bm≠P:=λz=>by rw[z,eP]at hbk;cases hbk;cases b4
 have hbG:bm≠mainGlobals:=λz=>by obtain⟨o,es,ep,e,hd,_⟩:=hg;rw[z,e]at hbk;cases hbk;rw[hd]at b6;cases b6
 refine kla_eval hdef ?_;rw[hq]
 cases q:codeAmong pos ps.toList with
 | none =>
  refine kla_makeFunction (mg:=X.mg) hcl I.ok.glob hg hcode C eP tr q hgP ⟨bm,ob,b1,b2,hbG,hbP,hbk,b4,b5,b6⟩ λc' ctv h' tk hx' hge hlt hrec htb=>?_;obtain⟨c2,oq,vs,t,e2,hoc,hd,hv⟩:=hrec;cases e2;have hn:H c'=none:=I.hok.fresh hge;have nP:∀b,H b=none->b≠P:=λb n z=>by rw[z,hP]at n;cases n
  have old:∀ b o,b≠P->s.heap.get? b=some o->(h'.push (kla_obj "<lambda>" (m6 x) pr bd sc [(y,c)] ((X.mg "__name__").getD .none) c' ctv)).get? b=some o:=λb o nb e=>tu _ (hx' b o nb e);have up:∀b u,H b=some u->IH H c' (.frz oq (.own c')) b=some u:=λb u e=>by rw[ar (aQ e hn)];exact e
  have co:iP oq (m6 x):=⟨vs,t,hd,hv⟩
  have J:IR X gV σ (IH H c' (.frz oq (.own c'))) {s with heap:=h'.push (kla_obj "<lambda>" (m6 x) pr bd sc [(y,c)] ((X.mg "__name__").getD .none) c' ctv),toks:=tk}:=by
   refine I.un ⟨λb o e n _ _=>old b o (nP b n) e,λb o e n _ _=>⟨o.slots,old b o (nP b n) e⟩,λb o e n _=>?_,λb o e _=>?_,λb xs e=>up b _ e,λb o u e=>up b _ e,λb t e=>up b _ e⟩ λb u e=>?_
   . rw[ar (MO (Mz (MA e) hge))];exact n
   .
    by_cases z:b=P
    . subst z;exact⟨_,tu _ htb⟩
    . exact⟨o,old b o z e⟩
   .
    by_cases z:b=c'
    . subst z;rw[aG]at e;cases e;exact⟨tu _ hoc,⟨_,tu _ hoc⟩⟩
    .
     rw[ar z]at e;by_cases zP:b=P
     .
      subst zP;rw[hP]at e;cases e;refine⟨_,tu _ htb,?_,λpos' cv hc'=>?_⟩
      . rw[Array.toList_append];exact TriplesOk_snoc _ _ _ _ tr
      .
       rw[Array.toList_append]at hc';rcases oX _ tr hc' with z1|z1
       . obtain⟨c3,o3,a1,a2,a3⟩:=among pos' cv z1;exact⟨c3,o3,a1,up _ _ a2,a3⟩
       . exact⟨c',oq,z1,aG,co⟩
     .
      refine(I.hok b u e).stay (λd v hd z2=>old d v ?_ z2) (λd z2=>up d _ z2) (λd xs z2=>up d _ z2) λd od _ _ z2=>up d _ z2;rcases hd with rfl|hd
      . exact zP
      . intro z3;rw[z3,hP]at hd;cases hd
  exact h _ c' oq _ _ ctv _ J up (M4 _ rfl) (by rw[ar (Nat.ne_of_gt hlt)];exact I.hok.fresh (MH hge (Nat.le_of_lt hlt))) (MH hge (Nat.le_of_lt hlt)) aG co
 | some cv =>
  obtain⟨c',oq,rfl,hz,co⟩:=among pos cv q;refine kla_makeFunctionHit (mg:=X.mg) hcl I.ok.glob hg hcode C eP tr q ⟨bm,ob,b1,b2,hbG,hbP,hbk,b4,b5,b6⟩ λctv h' tk hk hsz=>?_;exact h _ c' oq H _ ctv _ (I.kept λb o e=>tu _ (hk b o e)) (λ_ _ e=>e) (M4 _ rfl) (I.hok.fresh hsz) hsz hz co
end
def Ek(K:Frag)(H:Hp)(h:Heap)(f:Addr)(x:Str)(d:D):Prop:=∃(c c':Addr)(oc oq:Obj)(y:Str)(pr:Arguments)(bd:Expr)(sc:Scope)(pos:Pos)(pm ctv u:Value)(v:V),
 uH K x=some (pr,bd,sc,pos)/\h.get? f=some (kla_obj "<lambda>" (m6 x) pr bd sc [(y,c)] pm c' ctv)/\h.get? c'=some oq/\iP oq (m6 x)/\h.get? c=some oc/\(H c=none∨∃ o,H c=some (.frz o (.own c)))/\oc.data=.cell (some u)/\bF v u/\(y,NameKind.free)∈sc.names/\Jx K H v d
theorem Jx.lamAt{K:Frag}{H:Hp}{P:Program}{w:World}{h:Heap}{f:Addr}{x:Str}{d:D}(r:Jx K H (.ref f) (.fn x d))(ok:II P w H h):Ek K H h f x d:=by
 cases r with
 | fn hl hf hq hc hz hd hv hm r =>
  exact⟨_,_,_,_,_,_,_,_,_,_,_,_,_,hl,(ok _ _ hf).1,(ok _ _ hq).1,hc,(ok _ _ hz).1,.inr ⟨_,hz⟩,hd,hv,hm,r⟩
noncomputable def B1(P:Program)(w:World)(K:Frag)(mg:Str->Option Value)(base:Heap)(p y:Str)(qual:Str)(sc:Scope)(f c':Addr)(cl:List (Str×Addr))(A:Around)(outer:List Env)(s:Shared)(H:Hp):Cx where
 prog:=P
 w:=w
 K:=K
 mg:=mg
 base:=base
 A:=A.deeper (envX qual sc s.heap.objs.size f (.ref c') cl)
 N:=[p,y]
 s₀:=s
 H₀:=H
 env:=envX qual sc s.heap.objs.size f (.ref c') cl
 outer:=outer
 stack:=envX qual sc s.heap.objs.size f (.ref c') cl::outer
 ex:=[]
 calm:=true
 fn:=λ_=>false
 pn:=[]
 xe:=λ_ _=>False
structure B2 (p y:Str) (pr:Arguments) (bd:Expr) (sc:Scope):Prop where
 par:sc.names.lookup p=some .local
 fre:sc.names.lookup y=some .free
 nc:∀z∈sc.names,z.2≠.cell
 one:∀z,(z,NameKind.free)∈sc.names->z=y
 co:sc.isCoroutine=false
 gen:sc.isGenerator=false
 kind:sc.kind=.function
 bind:∀(q:Str)(cl:List (Str×Addr))(pm cdv ct u:Value),bindArgs (kla_fn "<lambda>" q pr bd sc cl pm cdv ct) ⟨[u],[]⟩=pure [(p,u)]
def B3(r:L)(k:D->Prop):Prop:=match r with
 |.d z=>k z
 |_=>False
theorem B4{r:L}{k:D->Prop}(h:B3 r k):∃z,r=.d z/\k z:=by
 cases r with
 |d z=>exact⟨z,rfl,h⟩
 |_=>exact h.elim
structure zC (P:Program) (w:World) (K:Frag) (mg:Str->Option Value) (base:Heap) (k:Nat) (x:Str) (fs:FS):Prop where
 run:∀(A:Around)(outer:List Env)(s:Shared)(H:Hp)(f:Addr)(u:Value)(v:V)(a d:D)(p4:D->Prop),fw k A->vM P w K mg base A outer s H->bF v u->Jx K H v a->Ek K H s.heap f x d->fs [.d a,.d d] (λr _=>B3 r p4) ->
  codeAny (model P w) A (.call (.ref f) ⟨[u],[]⟩) (CR CX0 outer P w H s (λv H'=>(∀b o,H b=some o->H' b=some o)/\∃z,Jx K H' v z/\p4 z) E0) s
theorem B5{P:Program}{w:World}{K:Frag}{mg:Str->Option Value}{base:Heap}{p y:Str}{qual:Str}{pr:Arguments}{bd:Expr}{sc:Scope}{f c c':Addr}{A:Around}{outer:List Env}{s:Shared}{H:Hp}{h1:Heap}{tk:Nat}{u u':Value}{v v':V}{oc:Obj}
  (S:B2 p y pr bd sc) (hd:A.handled=none) (e0:vM P w K mg base A outer s H) (r:bF v u) (r':bF v' u') (gc:s.heap.get? c=some oc) (dc:oc.data=.cell (some u')) (hc:H c=none∨∃o,H c=some (.frz o (.own c)))
  (hns:h1.Ns s.heap.objs.size λz=>[(p,u)].reverse.lookup z) (k:∀b o,s.heap.get? b=some o->h1.get? b=some o) :
  IR (B1 P w K mg base p y qual sc f c' [(y,c)] A outer s H) [] [some v,some v'] H {s with heap:=h1,toks:=tk}:=by
 have hpy:p≠y:=λz=>by have:=S.par;rw[z,S.fre]at this;cases this
 have one:∀z d,([(y,c)]:List (Str×Addr)).lookup z=some d->z=y/\d=c:=λz d e=>by
  rw[MU]at e
  cases q:z == y with
  |true=>rw[q]at e;cases e;exact⟨eq_of_beq q,rfl⟩
  |false=>rw[q]at e;cases e
 have at_y:([(y,c)]:List (Str×Addr)).lookup y=some c:=by rw[MU,beq_self_eq_true]
 have noA:∀b:Addr,b∉(B1 P w K mg base p y qual sc f c' [(y,c)] A outer s H).ex:=λb z=>absurd (show b∈([]:List Addr)from z) v6
 refine⟨⟨e0.mod,S.kind,rfl,rfl,ME _,λa b d h1 h2=>?_,λz hz=>?_,λz d hf _=>absurd (show false=true from hf) x_,λ_=>hd,Around.frames_deeper e0.frames,.inr ⟨rfl,rfl⟩,λb z=>absurd z (noA b),e0.bs,e0.bsz,λb _ _=>noA b,λb z=>absurd z (noA b),e0.funs,e0.frf,e0.tbs⟩,
  rfl,e0.bare,Un.kept k,⟨_,hns,λi z v2 h1 h2 h3=>?_⟩,λz d h=>?_,e0.hok.fresh (ME _),λz d h=>?_,λq hq=>absurd (show q∈([]:List (Addr×Obj))from hq) v6,e0.hok.kept k,rfl⟩
 . exact(one a d h1).1.trans (one b d h2).1.symm
 .
  have hz:sc.names.lookup z=some .cell∨sc.names.lookup z=some .free:=hz;rcases hz with hz|hz
  . exact absurd rfl (S.nc _ (NG hz))
  . rw[S.one z (NG hz)];exact⟨c,at_y⟩
 .
  match i,h1,h2 with
  | 0,h1,h2 =>
   have e1:p=z:=MZ h1;have e2:v=v2:=by simpa using h2
   subst e1 e2;exact⟨u,r,.inl ⟨S.par,v6⟩⟩
  | 1,h1,h2 =>
   have e1:y=z:=MZ h1;have e2:v'=v2:=by simpa using h2
   subst e1 e2;exact⟨u',r',.inr ⟨.inr S.fre,c,at_y,oc,k c oc gc,dc⟩⟩
  |n+2,h1,h2=>simp at h2
 . obtain⟨_,rfl⟩:=one z d h;exact⟨_,oc,k d oc gc,dc⟩
 . obtain⟨_,rfl⟩:=one z d h;exact hc.imp id λz=>⟨rfl,z⟩
theorem El{P:Program}{w:World}{K:Frag}{mg:Str->Option Value}{base:Heap}{k:Nat}{x p y:Str}{pr:Arguments}{bd:Expr}{sc:Scope}{pos:Pos}{fs:FS}(hl:uH K x=some (pr,bd,sc,pos))(S:B2 p y pr bd sc)(t:W L)
  (hbody:∀(A:Around)(outer:List Env)(s:Shared)(H:Hp)(f c c':Addr),fw k (A.deeper (envX (m6 x) sc s.heap.objs.size f (.ref c') [(y,c)]))->PL (B1 P w K mg base p y (m6 x) sc f c' [(y,c)] A outer s H) bd t)
  (h:∀a d p4,fs [.d a,.d d] p4->t [.d a,.d d] λr _=>p4 r []):zC P w K mg base (k+1) x fs:=by
 refine⟨λA outer s H f u v a d p4 hr e0 rv ra la hf=>?_⟩;obtain⟨c,c',oc,oq,y',pr',bd',sc',pos',pm,ctv,u',v',hl',gf,gq,hq,gc,hc,dc,rv',hm,rd⟩:=la;rw[hl]at hl';cases hl';obtain rfl:=S.one y' hm;obtain⟨vs,tq,hd1,hd2⟩:=hq;have lim:s.heap.NoLimit:=e0.mod.nolimit.keeps λb o e=>(e0.bs b o e).1;refine kla_callFunE hr.depth gf rfl S.co S.gen rfl ⟨c',oq,vs,tq,rfl,gq,hd1,hd2⟩ ?_;rw[S.bind]
 refine MB (wpAny_newFunctionEnv S.nc (λz hz=>by
  have:z=(p,u):=by simpa using hz
  subst this;exact S.par) (λh₁ hns hsb=>⟨lim.fresh _ hsb,?_⟩) S.kind)
 have hk₁:∀b o,s.heap.get? b=some o->h₁.get? b=some o:=λb o e=>hsb.extBut b o (MO (MA e)) (tu _ e);show codeAny _ _ (.expr bd (envX (m6 x) sc s.heap.objs.size f (.ref c') [(y',c)])) _ _;have I:=B5 (P:=P) (w:=w) (K:=K) (mg:=mg) (base:=base) (qual:=m6 x) (f:=f) (c':=c') (tk:=s.toks+[(p,u)].length) S hr.hd e0 rv rv' gc dc hc hns hk₁;have E:ay K H H [some v,some v'] [.d a,.d d]:=⟨λ_ _ e=>e,Oj,λa ha=>absurd (show a∈([]:List Addr)from ha) v6,.cons ⟨v,rfl,ra⟩ (.cons ⟨v',rfl,rd⟩ .nil)⟩;refine kla_codeExpr (Np (hbody A outer s H f c c' (hr.deeper _) [] _ _ H H _ (λr _=>B3 r p4) I E (h a d _ hf)) (λv2 s' hs=>?_) λe s' hs=>(show False from hs).elim);obtain⟨v3,H',r,Z',J,rv3,E',q⟩:=hs;obtain⟨z,rfl,hp⟩:=B4 q;obtain⟨w3,e3,rz⟩:=E'.head_d;cases e3;exact⟨v3,H',J.os,J.bare,J.base,J.hok,rv3,E'.sub,z,rz,hp⟩
def Ax(i:Nat)(Z:Ev)(k:D->Prop):Prop:=match Z[i]? with
 |some (.d x)=>k x
 |_=>False
theorem xh{i:Nat}{Z:Ev}{k:D->Prop}(h:Ax i Z k):∃x,Z[i]?=some (.d x)/\k x:=by
 unfold Ax at h;split at h
 . rename_i x q;exact⟨x,q,h⟩
 . exact h.elim
def Kw(x:Str)(d:D)(k:D->Prop):Prop:=match d with
 |.fn z d=>z=x/\k d
 |_=>False
theorem Em{x:Str}{d:D}{k:D->Prop}(h:Kw x d k):∃e,d=.fn x e/\k e:=by
 cases d with
 |fn z e=>obtain⟨rfl,h⟩:=h;exact⟨e,rfl,h⟩
 |_=>exact h.elim
def mG(fs:FS)(x:Str)(i:Nat)(t:W L):W L:=λZ p4=>Ax i Z λg=>Kw x g λd=>t Z λr Z1=>JA r λa=>fs [.d a,.d d] λr _=>B3 r λz=>p4 (.d z) Z1
section
variable{X:Cx}{k:Nat}{x n:Str}{fs:FS}{p pos:Pos}{e:Expr}{t:W L}
theorem xi(L:zC X.prog X.w X.K X.mg X.base k x fs)(hr:fw k X.A)(i:Nat)(ha:PL X e t)(hN:X.N[i]?=some n:=by rfl)(hv:IP X.env.scope n:=by first | exact Or.inl rfl | exact Or.inr (Or.inl rfl) | exact Or.inr (Or.inr rfl)) (hd:(n == ("__debug__" : Str))=false:=by decide)
  (hcd:(n == ("__classdict__" : Str))=false:=by decide) (hs:starEach [e] X.env=(false,eval e X.env)::starEach [] X.env:=by rfl) :
  PL X (.Call (.Name n p) [e] [] pos) (mG fs x i t):=by
 intro gV s σ H Pr Z p4 I E0 h;obtain⟨g,qi,h⟩:=xh h;obtain⟨d,eg,hh⟩:=Em h;clear h;subst eg;obtain⟨sv,hsl,w,rfl,rw⟩:=E0.slot qi;obtain⟨f,rfl⟩:∃f,w=.ref f:=by cases rw;exact⟨_,rfl⟩
 refine Nw (IT (cm hN hv hd hcd gV s σ H (λw H'=>w=.ref f/\H'=H) I ⟨.ref f,hsl,rfl,rfl⟩) λu s1 ⟨w,H1,I1,r1,e1,e2⟩=>?_);subst e1 e2;cases r1;have E1:=E0.cons_d rw;have fnAt:∀{H':Hp}{s':Shared},IR X gV σ H' s'->Jx X.K H' (.ref f) (.fn x d)->FnAt f s'.heap:=λI' r'=>by obtain⟨_,_,_,_,_,_,_,_,_,_,_,_,_,_,gf,_⟩:=r'.lamAt I'.hok;exact⟨_,_,_,_,gf⟩
 refine callWith_F (fnAt I1 rw) ?_ hs rfl;rw[hs];show wpAny _ _ (spliced ((false,eval e X.env)::backTo pos (starEach [] X.env))) _ _ s1;refine N5 (IT (ha gV s1 σ _ _ Z (λr Z1=>JA r λa=>fs [.d a,.d d] λr _=>B3 r λz=>p4 (.d z) Z1) I1 E1.tail.wide hh) λu s2 hq=>?_);obtain⟨v,H2,a,Z2,I2,rv,E2,q2⟩:=EL.frz (p4:=λa Z1=>fs [.d a,.d d] λr _=>B3 r λz=>p4 (.d z) Z1) hq;have E3:ay X.K Pr H2 ([some v]++(some (.ref f)::σ)) ([.d a]++(.d (.fn x d)::Z2)):=ay.step (τ:=[some (.ref f)]) (lam:=[.d (.fn x d)]) (w:=[some v]) (μ:=[.d a]) E1 rfl E2 rfl;obtain⟨_,e5,ra⟩:=ay.head_d (v:=some v) (x:=a) E3;cases e5;have E4:ay X.K Pr H2 (some (.ref f)::σ) (.d (.fn x d)::Z2):=ay.tail (v:=some v) (l:=.d a) E3;obtain⟨_,e6,rf⟩:=E4.head_d;cases e6;refine Calls.spliced_nil ⟨fnAt I2 rf,?_⟩;refine Om (codeAny_mono (L.run X.A X.stack s2 H2 f u v a d (λz=>p4 (.d z) Z2) hr I2.env0 rv ra (rf.lamAt I2.hok) q2) λres s' hq=>?_)
 cases res with
 |error e=>exact(show False from hq).elim
 | ok fl =>
  cases fl with
  | ret u2 =>
   obtain⟨v3,H3,I3,rv3,ext,z,rz,pz⟩:=I2.after hq;exact⟨v3,H3,.d z,Z2,I3,rv3,(E4.tail.exten ext).cons_d rz,pz⟩
  |next=>exact False.elim hq
  |brk=>exact False.elim hq
  |cont=>exact False.elim hq
end
theorem Un.one{P:Program}{w:World}{fs:List Addr}{H H':Hp}{h h':Heap}{c:Addr}{oc:Obj}(hc:H c=none)(gc:h.get? c=some oc)(cc:∀q,¬iP oc q)(u:Un fs [] (IH H c (.frz oc (.own c))) H' h h')(ok:II P w H' h') :
  Un fs [] H (Kb H' c) h h'/\II P w (Kb H' c) h':=by
 have zc:H' c=some (.frz oc (.own c)):=u.frzs c oc _ aG;have gc':h'.get? c=some oc:=(ok c _ zc).1;have nz:∀b o,H' b=some o->o≠.frz oc (.own c)->b≠c:=λb o e n z=>by subst z;rw[zc]at e;cases e;exact n rfl
 refine⟨⟨λb o e n hb hx=>?_,λb o e n hb hx=>?_,λb o e n hx=>?_,λb o e hx=>u.there b o e hx,λb xs e=>?_,λb o v e=>?_,λb t e=>?_⟩,λb o e=>?_⟩
 .
  by_cases z:b=c
  . subst z;rw[gc]at e;cases e;exact gc'
  . exact u.keep b o e (by rw[ar z];exact n) hb hx
 .
  by_cases z:b=c
  . subst z;rw[gc]at e;cases e;exact⟨oc.slots,gc'⟩
  . exact u.slot b o e (by rw[ar z];exact n) hb hx
 .
  by_cases z:b=c
  . subst z;exact jO
  . rw[cq z];exact u.free b o e (by rw[ar z];exact n) hx
 . have z:=aQ e hc;rw[cq z];exact u.tups b xs (by rw[ar z];exact e)
 . have z:=aQ e hc;rw[cq z];exact u.frzs b o v (by rw[ar z];exact e)
 . have z:=aQ e hc;rw[cq z];exact u.tbls b t (by rw[ar z];exact e)
 .
  have hb:b≠c:=λz=>by subst z;rw[jO]at e;cases e
  rw[cq hb]at e;refine(ok b o e).stay (λ_ _ _ z=>z) (λd z=>?_) (λd xs z=>?_) λd od q co z=>?_
  . rw[cq (nz d _ z λy=>nomatch y)];exact z
  . rw[cq (nz d _ z λy=>nomatch y)];exact z
  . rw[cq (nz d _ z λy=>by cases y;exact cc q co)];exact z
mutual
theorem Jx.lite{K:Frag}{H H':Hp}(k:∀b xs,H b=some (.tup xs)->H' b=some (.tup xs))(k2:∀b o xs,H b=some (.frz o (.tup xs))->H' b=some (.frz o (.tup xs))):∀{v:V}{d:D},J0 d=true->Jx K H v d->Jx K H' v d
 |_,_,_,.non=>.non
 |_,_,_,.bl b=>.bl b
 |_,_,_,.int i=>.int i
 |_,_,_,.str x=>.str x
 | _,_,h,.tup hs r=>.tup (by
   rcases hs with(e|⟨o,e⟩)|e
   .
    exact .inl (.inl (k _ _ e))
   .
    exact .inl (.inr ⟨o,k2 _ _ _ e⟩)
   .
    exact .inr e) (bf.lite k k2 (by simpa[J0]using h) r)
 |_,_,h,.lst _ _=>by simp[J0]at h
 |_,_,h,.dct _=>by simp[J0]at h
 |_,_,h,.exc _ _ _ _ _ _ _ _=>by simp[J0]at h
 |_,_,h,.fn _ _ _ _ _ _ _ _ _=>by simp[J0]at h
 |_,_,h,.dk _ _=>by simp[J0]at h
 |_,_,h,.gf _ _ _=>by simp[J0]at h
theorem bf.lite{K:Frag}{H H':Hp}(k:∀b xs,H b=some (.tup xs)->H' b=some (.tup xs))(k2:∀b o xs,H b=some (.frz o (.tup xs))->H' b=some (.frz o (.tup xs))):∀{vs:List V}{ds:List D},kJ ds=true->bf K H vs ds->bf K H' vs ds
 |_,_,_,.nil=>.nil
 | _,_,h,.cons r t=>by
  simp only[kJ,MR]at h
  exact .cons (Jx.lite k k2 h.1 r) (bf.lite k k2 h.2 t)
end
structure B6 (X:Cx) (x y:Str) (i:Nat) (pr:Arguments) (bd:Expr) (sc:Scope) (pos:Pos):Prop where
 mem:x∈lamNames
 tab:∃c0 P,tabIn X.K x=some (c0,P)/\X.env.code=.ref c0
 lam:uH X.K x=some (pr,bd,sc,pos)
 qual:X.env.qual++"<lambda>"=m6 x
 deft:defaultsOf pr X.env=([],[])
 fre:(sc.names.filter λp=>p.2 == .free)=[(y,.free)]
 at_i:X.N[i]?=some y
 cel:X.env.scope.names.lookup y=some .cell
 fn:X.fn y=true
def oY(fs:Kl)(xp:Xc->Prop)(x:Str)(i:Nat)(t:W L):W L:=λZ p4=>t Z λr Z1=>JA r λa=>Ax i Z1 λd=>fs [a,.fn x d] (λr=>r=.d .non/\p4 (.d .non) Z1) (λz=>kJ z.ds=true/\xp z)
section
variable{X:Cx}{k n:Nat}{f:Addr}{fd:FuncData}{ps:List Str}{fs:Kl}{g x y:Str}{p cpos pos:Pos}{e:Expr}{t:W L}{xp:Xc->Prop}{pr:Arguments}{bd:Expr}{sc:Scope}
theorem xj(F:FnOk X.prog X.w X.K X.mg X.base (Ki X.prog X.w) k f fd ps (Km X.K 2 fs))(hr:fw k X.A)(hg:Gl X g)(hm:X.mg g=some (.ref f))(hk:PySem.W.keepIn X.K (.ref f)=true)(hb:jE X.K fd ps [])(hx:Kk X xp)
  (i:Nat) (LI:B6 X x y i pr bd sc pos) (ha:PL X e t) (hdb:(g == ("__debug__" : Str))=false:=by decide) (he:starEach [e,.Lambda pr bd sc pos] X.env=(false,eval e X.env)::starEach [.Lambda pr bd sc pos] X.env:=by rfl)
  (he2:starEach [.Lambda pr bd sc pos] X.env=(false,eval (.Lambda pr bd sc pos) X.env)::starEach [] X.env:=by rfl) :
  PL X (.Call (.Name g p) [e,.Lambda pr bd sc pos] [] cpos) (oY fs xp x i t):=by
 intro gV s σ H Pr Z p4 I E0 h;obtain⟨c0,P,tab,code⟩:=LI.tab;refine Nw (fV I hg hm ?_ hdb);refine N3 (h₀:=X.base) I.ok.mod.kin hk ?_ he (by rw[he2];rfl);rw[he];show wpAny _ _ (spliced ((false,eval e X.env)::backTo cpos (starEach [.Lambda pr bd sc pos] X.env))) _ _ s;refine N5 (IT (ha gV s σ H Pr Z (λr Z1=>JA r λa=>Ax i Z1 λd=>fs [a,.fn x d] (λr=>r=.d .non/\p4 (.d .non) Z1) (λz=>kJ z.ds=true/\xp z)) I E0 h) λu1 s1 hq=>?_);obtain⟨v1,H1,a,Z1,I1,rv1,E1,q1⟩:=EL.frz (p4:=λa Z1=>Ax i Z1 λd=>fs [a,.fn x d] (λr=>r=.d .non/\p4 (.d .non) Z1) (λz=>kJ z.ds=true/\xp z)) hq;obtain⟨d,qi,q1⟩:=xh q1;rw[he2];show wpAny _ _ (spliced ((false,eval (.Lambda pr bd sc pos) X.env)::backTo cpos (starEach [] X.env))) _ _ s1;obtain⟨c,hcl⟩:=I1.ok.has y (.inl LI.cel);have fr:∀z,(z,NameKind.free)∈sc.names->z=y:=λz hz=>by have:(z,NameKind.free)∈sc.names.filter λp=>p.2 == .free:=List.mem_filter.mpr ⟨hz,rfl⟩;rw[LI.fre]at this;simpa using this
 have hm':(y,NameKind.free)∈sc.names:=by
  have:(y,NameKind.free)∈sc.names.filter λp=>p.2 == .free:=by rw[LI.fre];simp
  exact(List.mem_filter.mp this).1
 have hclo:closureFor sc X.env=pure [(y,c)]:=by
  rw[jJ λz hz hf=>by
   obtain⟨z1,z2⟩:=z;cases hf
   rw[fr z1 hz];exact⟨c,hcl⟩,t7 hcl _ _ LI.fre]
 refine N5 (zB I1 LI.mem tab code LI.qual hclo LI.deft λfa c' oq H2 s2 ctv pm I2 ext gf nf zf zq co=>?_);refine Calls.spliced_nil ⟨I2.kIn,?_⟩;have E2:=E1.exten ext;obtain⟨_,e1,ra⟩:=E2.head_d;cases e1;have E3:=E2.tail;obtain⟨sv,hsl,v',rfl,rd⟩:=E3.slot qi;obtain⟨m,_,hl⟩:=I2.loc;obtain⟨u',rv',lk⟩:=hl i y v' LI.at_i hsl (.inr (.inl LI.cel))
 obtain⟨oc,gc,dc⟩:s2.heap.IsCell c (some u'):=by
  rcases lk with⟨z,_⟩|⟨_,c2,e2,z⟩
  . rw[show X.env.kindOf y=some .cell from LI.cel]at z;cases z
  . rw[hcl]at e2;cases e2;exact z
 have nc:H2 c=none:=(I2.freeC y c hcl).resolve_right λz=>by rw[LI.fn]at z;exact absurd z.1 x_
 have hfc:fa≠c:=λz=>by rw[z,gc]at gf;cases gf;cases dc
 have e0:=I2.hide;have nfh:jD H2 fa=none:=d9 nf;have nch:jD H2 c=none:=d9 nc;have nco:∀q,¬iP oc q:=λq ⟨vs,t,z,_⟩=>by rw[dc]at z;cases z
 have nfo:∀ q,¬ iP (kla_obj "<lambda>" (m6 x) pr bd sc [(y,c)] pm c' ctv) q:=λq ⟨vs,t,z,_⟩=>by cases z
 generalize hfo:kla_obj "<lambda>" (m6 x) pr bd sc [(y,c)] pm c' ctv=fo at gf nfo;have n1:IH (jD H2) fa (.frz fo (.own fa)) c=none:=by rw[ar (NH hfc)];exact nch
 have ext2:∀b o,jD H2 b=some o->IH (IH (jD H2) fa (.frz fo (.own fa))) c (.frz oc (.own c)) b=some o:=λb o z=>by
  have z1:IH (jD H2) fa (.frz fo (.own fa)) b=some o:=by rw[ar (aQ z nfh)];exact z
  rw[ar (aQ z1 n1)];exact z1
 have s0c:X.s₀.heap.objs.size<=c:=I2.ok.cab y c LI.fn hcl;have s0f:X.s₀.heap.objs.size<=fa:=MH I1.sz zf;have none2:∀b,jD H2 b=none->b≠fa->b≠c->IH (IH (jD H2) fa (.frz fo (.own fa))) c (.frz oc (.own c)) b=none:=λb z h1 h2=>by rw[ar h2,ar h1];exact z
 have E0c:vM X.prog X.w X.K X.mg X.base X.A X.stack s2 (IH (IH (jD H2) fa (.frz fo (.own fa))) c (.frz oc (.own c))):=by
  refine⟨e0.frames,e0.mod,λb o z=>⟨(e0.bs b o z).1,none2 b (e0.bs b o z).2 ?_ ?_⟩,e0.bsz,e0.funs,λb hb=>none2 b (e0.frf b hb) ?_ ?_,λb o z=>?_,e0.bare,λz hz c1 P1 q=>ext2 _ _ (e0.tbs z hz c1 P1 q)⟩
  . exact MO (Mz (MA (I2.ok.bs b o z).1) s0f)
  . exact MO (Mz (MA (I2.ok.bs b o z).1) s0c)
  .
   rcases MC.mp (I2.stkSub b hb)with z|z
   . rw[z];exact MO (Mz I1.lt zf)
   . obtain⟨_,o,ho,_⟩:=I2.ok.funs.mem z;exact MO (Mz (MA ho) s0f)
  .
   rcases MC.mp (I2.stkSub b hb)with z|z
   . rw[z];exact NH (I2.cne y c hcl)
   . obtain⟨_,o,ho,_⟩:=I2.ok.funs.mem z;exact MO (Mz (MA ho) s0c)
  .
   by_cases h1:b=c
   . subst h1;rw[aG]at z;cases z;exact⟨gc,_,gc⟩
   .
    rw[ar h1]at z;by_cases h2:b=fa
    . subst h2;rw[aG]at z;cases z;exact⟨gf,_,gf⟩
    . rw[ar h2]at z;exact(e0.hok b o z).stay (λ_ _ _ q=>q) (λd q=>ext2 d _ q) (λd xs q=>ext2 d _ q) λd od _ _ q=>ext2 d _ q
 have pr2:∀{v:V}{d:D},Jx X.K H2 v d->Jx X.K (IH (IH (jD H2) fa (.frz fo (.own fa))) c (.frz oc (.own c))) v d:=λr=>(Jx.hid r).pres λb o _ z=>ext2 b o z;have rfn:Jx X.K (IH (IH (jD H2) fa (.frz fo (.own fa))) c (.frz oc (.own c))) (.ref fa) (.fn x d):=by refine .fn LI.lam (y:=y) (c:=c) (c':=c') (pm:=pm) (ctv:=ctv) ?_ (ext2 _ _ (bo zq (jP _ _))) co aG dc rv' hm' (pr2 rd);rw[ar hfc,aG,hfo]
 have hsp:Km X.K 2 fs [v1,.ref fa] (IH (IH (jD H2) fa (.frz fo (.own fa))) c (.frz oc (.own c))) (λv H'=>v=.non/\p4 (.d .non) Z1) (λcls dx H'=>∃z,uU X.K H' cls dx z/\kJ z.ds=true/\xp z):=by refine⟨rfl,[a,.fn x d],_,_,.cons (pr2 ra) (.cons rfn .nil),q1,λv H' r E' p=>?_,λcls dx H' z f1 f2=>⟨z,f1,f2⟩⟩;obtain⟨rfl,p⟩:=p;obtain⟨w,ew,rw⟩:=E'.head_d;cases ew;cases rw;exact⟨rfl,p⟩
 have rvs:bL [v1,.ref fa] [u1,.ref fa]:=.cons rv1 (.cons rfl .nil);have hl':([u1,.ref fa]:List Value).length=ps.length:=by rw[<- rvs.length];exact F.len _ _ _ _ hsp
 have bt:=hb s2 [u1,.ref fa] I2.kIn (by rw[M9];exact hl');rw[M9]at bt;refine Om (codeAny_mono (F.run X.A X.stack s2 _ ⟨[u1,.ref fa],[]⟩ [u1,.ref fa] [v1,.ref fa] _ _ hr E0c bt rvs hsp) λres s' hq=>?_)
 cases res with
 | error ev =>
  obtain⟨ax,cls,dx,T,H',rfl,os,bare,un,hok,fl,na,nt,za,zt,z,f1,f2,f3⟩:=hq;have zc:H' c=some (.frz oc (.own c)):=un.frzs c oc _ aG;have zf2:H' fa=some (.frz fo (.own fa)):=un.frzs fa fo _ (by rw[ar hfc,aG]);obtain⟨un1,hok1⟩:=un.one n1 gc nco hok;obtain⟨un2,hok2⟩:=un1.one nfh gf nfo hok1;obtain⟨I3,ext3,back⟩:=I2.unhide os bare un2 hok2
  have keep:∀b o,H' b=some o->(∀oo,o≠.frz oo (.own b))->Kb (Kb H' c) fa b=some o:=λb o q n=>by
   have h1:b≠c:=λy=>by subst y;rw[zc]at q;cases q;exact n _ rfl
   have h2:b≠fa:=λy=>by subst y;rw[zf2]at q;cases q;exact n _ rfl
   rw[cq h2,cq h1];exact q
  have fly:uU X.K (Kb (Kb H' c) fa) cls dx z:=by
   obtain⟨C,vs,g1,g2,g3,g4,g5⟩:=f1;refine⟨C,vs,g1,g2,g3,?_,g5.lite (λb xs q=>keep b _ q λ_ y=>nomatch y) (λb o xs q=>keep b _ q λ_ y=>nomatch y) f2⟩;rcases g4 with g4|⟨dd,od,k1,k2,k3⟩
   . exact .inl g4
   . exact .inr ⟨dd,od,k1,keep dd _ k2 (λ_ y=>nomatch y),k3⟩
  refine hx gV σ _ s' ax cls dx (some T) z I3 ⟨fl,?_,λt et=>?_,I2.newer za,λt et=>by cases et;exact I2.newer zt⟩ (fly.ext λb o q=>cX q) f3
  . rw[iG (eO (eO na))];exact I2.hok.fresh za
  . cases et;rw[iG (eO (eO nt))];exact I2.hok.fresh zt
 | ok fl =>
  cases fl with
  | ret u =>
   obtain⟨v,H',os,bare,un,hok,rv,hv,pq⟩:=hq;subst hv;obtain⟨un1,hok1⟩:=un.one n1 gc nco hok;obtain⟨un2,hok2⟩:=un1.one nfh gf nfo hok1;obtain⟨I3,ext3,back⟩:=I2.unhide os bare un2 hok2;exact⟨.non,_,.d .non,Z1,I3,rv,(E3.exten ext3).cons_d .non,pq⟩
  |next=>exact False.elim hq
  |brk=>exact False.elim hq
  |cont=>exact False.elim hq
end
structure En (K:Frag) (x:Str) (fd:FuncData) (st:Stmt):Prop where
 tab:∃c0 P,tabIn K x=some (c0,P)/\fd.code=.ref c0
 lam:uH K x=vV (cj st)
theorem En.mk'{K:Frag}{x:Str}{fd:FuncData}{st:Stmt}{c0:Addr}(h1:(tabIn K x).map (·.1)=some c0)(h2:fd.code=.ref c0)(h3:uH K x=vV (cj st)):En K x fd st:=by
 refine⟨?_,h3⟩
 cases z:tabIn K x with
 |none=>rw[z]at h1;cases h1
 |some p=>rw[z]at h1;cases h1;exact⟨p.1,p.2,rfl,h2⟩
theorem Eo{X:Cx}{x y:Str}{i:Nat}{pr:Arguments}{bd:Expr}{sc:Scope}{pos:Pos}{fd:FuncData}{st:Stmt}(T:En X.K x fd st)(hc:fd.code=X.env.code)(h1:vV (cj st)=some (pr,bd,sc,pos))(mem:x∈lamNames) (qual:X.env.qual++"<lambda>"=m6 x) (deft:defaultsOf pr X.env=([],[]))
  (fre:(sc.names.filter λp=>p.2 == .free)=[(y,.free)]) (at_i:X.N[i]?=some y) (cel:X.env.scope.names.lookup y=some .cell) (fn:X.fn y=true):B6 X x y i pr bd sc pos :=
 ⟨mem,let ⟨c0,P,a,b⟩:=T.tab;⟨c0,P,a,by rw[<- hc];exact b⟩,T.lam.trans h1,qual,deft,fre,at_i,cel,fn⟩
theorem B7{P:Program}{w:World}{K:Frag}{mg:Str->Option Value}{base:Heap}{x qual:Str}{st:Stmt}{f:Addr}{fd:FuncData}{N ps:List Str}{k:Nat}{fs:Kl}(F:Jv K x qual st f fd)(S:aO N ps (aB st))(t:(Xc->Prop)->W Fl)
  (hbody:∀(cdv:Value)(A:Around)(outer:List Env)(s:Shared)(H:Hp)(E:XK)(xp:Xc->Prop),fd.code=cdv->fw k (A.deeper (envOfC qual (aB st) s.heap.objs.size f cdv))->(∀cls dx H' y,uU K H' cls dx y->xp y->E cls dx H') ->
   Jz (yi (Ki P w) P w K mg base N qual (aB st) f cdv A outer s H E) (cj st) (t xp))
  (h:∀ds p4 xp,ds.length=ps.length->fs ds p4 xp->t xp (ds.map .d++List.replicate (N.length-ps.length) .un) (Kn p4)):FnOk P w K mg base (Ki P w) (k+1) f fd ps (Km K ps.length fs):=by
 obtain⟨oc,od,kV,doc,pm,an,cdv,ct,osl,rfl,lk,hcd⟩:=F.ex;refine AW lk hcd S (λvs H Q E q=>q.1) λA outer s H vs Q E hr q=>?_;obtain⟨hl,ds,p4,xp,rs,hf,q1,q2⟩:=q;have E0:ay K H H (vs.map some) (ds.map .d):=⟨λ_ _ e=>e,by rw[oI];exact Oj,λa ha=>(by rw[oI]at ha;simp at ha),ay.ds rs⟩;refine⟨_,(hbody cdv A outer s H E xp rfl hr q2).pss,H,ds.map .d++List.replicate (N.length-ps.length) .un,Kn p4,?_,h ds p4 xp (by rw[<- rs.length];exact hl) hf,λσ' H' Z' E' p=>?_,λ_ _ _ _ p=>p.elim,λ_ _ _ _ p=>p.elim,λv τ H' r Z' E' p=>?_⟩
 . unfold kC;rw[hl];exact E0.uns _
 . exact q1 .non H' (.d .non) ((⟨E'.sub,Oj,λa ha=>(by simp[owns]at ha),.nil⟩:ay K H H' [] []).cons_d .non) p
 . exact q1 v H' r (ay.left (τ:=[some v]) (lam:=[r]) E' rfl) p
theorem Gp{p y:Str}{pr:Arguments}{bd:Expr}{sc:Scope}(par:sc.names.lookup p=some .local)(fre:(sc.names.filter λp=>p.2 == .free)=[(y,.free)])(fr1:sc.names.lookup y=some .free)(nc:(sc.names.all λz=>z.2 != .cell)=true)(co:sc.isCoroutine=false)(gk:(sc.isGenerator,sc.kind)=(false,.function))
  (bind:∀(q:Str)(cl:List (Str×Addr))(pm cdv ct u:Value),bindArgs (kla_fn "<lambda>" q pr bd sc cl pm cdv ct) ⟨[u],[]⟩=pure [(p,u)]):B2 p y pr bd sc where
 par:=par
 fre:=fr1
 nc:=λz hz q=>by have:=Nq.mp nc z hz;rw[q]at this;exact absurd this x_
 one:=λz hz=>by have:(z,NameKind.free)∈sc.names.filter λp=>p.2 == .free:=List.mem_filter.mpr ⟨hz,rfl⟩;rw[fre]at this;simpa using this
 co:=co
 gen:=(Prod.mk.inj gk).1
 kind:=(Prod.mk.inj gk).2
 bind:=bind
section
variable{X:Cx}{k k':Nat}{f:Addr}{fd:FuncData}{ps:List Str}{fs:Kl}{g x y nm:Str}{p cpos pos:Pos}{e:Expr}{t:W L}{xp:Xc->Prop}{pr:Arguments}{bd:Expr}{sc:Scope}{st:Stmt}{fl:FS}
theorem B8(F:FnOk X.prog X.w X.K X.mg X.base (Ki X.prog X.w) k f fd ps (Km X.K 2 fs))(T:FX X.K X.mg g st f fd ps)(hr:fw k' X.A)(hx:Kk X xp)(i:Nat)(LI:B6 X x y i pr bd sc pos)(ha:PL X e t)(hk:k<=k':=by decide)(hg:Gl X g:=by rfl) (hdb:(g == ("__debug__" : Str))=false:=by decide) (he:starEach [e,.Lambda pr bd sc pos] X.env=(false,eval e X.env)::starEach [.Lambda pr bd sc pos] X.env:=by rfl)
  (he2:starEach [.Lambda pr bd sc pos] X.env=(false,eval (.Lambda pr bd sc pos) X.env)::starEach [] X.env:=by rfl):PL X (.Call (.Name g p) [e,.Lambda pr bd sc pos] [] cpos) (oY fs xp x i t) :=
 xj F (hr.mono hk) hg T.m T.f.kp T.b hx i LI ha hdb he he2
theorem Ay(L:zC X.prog X.w X.K X.mg X.base k x fl)(hr:fw k' X.A)(i:Nat)(ha:PL X e t)(hk:k<=k':=by decide)(hN:X.N[i]?=some nm:=by rfl)(hv:IP X.env.scope nm:=by first | exact Or.inl rfl | exact Or.inr (Or.inl rfl) | exact Or.inr (Or.inr rfl)) (hd:(nm == ("__debug__" : Str))=false:=by decide)
  (hcd:(nm == ("__classdict__" : Str))=false:=by decide) (hs:starEach [e] X.env=(false,eval e X.env)::starEach [] X.env:=by rfl):PL X (.Call (.Name nm p) [e] [] pos) (mG fl x i t):=xi L (hr.mono hk) i ha hN hv hd hcd hs
end
end L2
namespace L2
open PySem PySem.W
end L2
namespace L2
open PySem PySem.Spec PyProof.Rows PySem.SeqAt
structure Hg (d:D):Prop where
 ok:Kv d=true
 sh:gH d=true
 dp:(JM d).depth<=40
 sg:vp d<=16777216
theorem Hg.len{d:D}(h:Hg d):(JM d).shown.length<=sizeLine:=by
 have e:sizeLine=16777216:=by decide
 rw[e];exact MH (xf d (mF d h.ok h.sh)) h.sg
end L2
namespace L2
open PySem PySem.Spec PyProof.Rows
def Kx(o q:Option L)(i j:Nat)(t:W L)(Z:Ev)(p4:L->Ev->Prop):Prop:=match o,q with
 |some (.own _ xs),some (.own b _)=>i≠j/\cO i Z=true/\t (Z.set i (.d (.lst xs))) λr Z'=>jh r=true/\∃zs,kJ zs=true/\Z'=(Z.set i (.d (.lst xs))).set j (.own b zs)/\p4 r (Z.set j (.own b zs))
 |_,_=>False
theorem B9(a b:Addr)(xs ys:List D)(i j:Nat)(t:W L)(Z:Ev)(p4:L->Ev->Prop):Kx (some (.own a xs)) (some (.own b ys)) i j t Z p4=(i≠j/\cO i Z=true/\t (Z.set i (.d (.lst xs))) λr Z'=>jh r=true/\∃zs,kJ zs=true/\Z'=(Z.set i (.d (.lst xs))).set j (.own b zs)/\p4 r (Z.set j (.own b zs))):=(rfl)
def HY(o:Option L)(Z:Ev)(p4:Bool->Ev->Prop):Prop:=match o with
 |some (.d (.lst xs))=>p4 (!xs.isEmpty) Z
 |_=>False
theorem zD(xs:List D)(Z:Ev)(p4:Bool->Ev->Prop):HY (some (.d (.lst xs))) Z p4=p4 (!xs.isEmpty) Z:=(rfl)
end L2
namespace HT
open PySem PySem.Spec PyProof.Rows
end HT
namespace L2
open PySem PySem.Spec PyProof.Rows
end L2
namespace L2
open PySem PySem.Spec PyProof.Rows PySem.W
end L2
namespace L2
open PySem PySem.Spec PyProof.Rows PySem.SeqAt
end L2
namespace PySem
open PySem.Spec
namespace F
end F
end PySem
namespace L2
open PySem PySem.Spec PyProof.Rows PySem.W
section
variable{key:Nat->Int}{n:Nat}{I:Shared->Prop}{cmp:Nat->Nat->(Bool->Shared->Prop)->Shared->Prop}
def Gq(I:Shared->Prop)(cmp:Nat->Nat->(Bool->Shared->Prop)->Shared->Prop){α:Type}(t:KasT α)(P:α->Prop):Prop:=∀(Q:α->Shared->Prop)(s:Shared),I s->(∀a s',I s'->P a->Q a s')->t.kasWp cmp Q s
def IF(key:Nat->Int)(n:Nat)(I:Shared->Prop)(cmp:Nat->Nat->(Bool->Shared->Prop)->Shared->Prop):Prop:=∀(i j:Nat)(C:Bool->Shared->Prop)(s:Shared),i<n->j<n->i≠j->I s->(∀s',I s'->C (decide (key i<key j)) s')->cmp i j C s
noncomputable def kk(key:Nat->Int)(p:Array Nat)(i:Nat):Int:=key (p.getD i 0)
structure Ep (n:Nat) (p:Array Nat):Prop where
 sz:p.size=n
 pm:p.toList.Perm (List.range n)
theorem Ep.lt{p:Array Nat}(g:Ep n p){i:Nat}(h:i<n):p.getD i 0<n:=by
 have hs:i<p.size:=by rw[g.sz];exact h
 have e:p.getD i 0=p[i]:=by simp[Array.getD,hs]
 rw[e];exact List.mem_range.mp (g.pm.mem_iff.mp (by rw[<- Array.getElem_toList];exact Oh _))
theorem Gq.mono{α:Type}{t:KasT α}{P R:α->Prop}(h:Gq I cmp t P)(hr:∀a,P a->R a):Gq I cmp t R:=λQ s hI hq=>h Q s hI λa s' hI' ha=>hq a s' hI' (hr a ha)
end
end L2
namespace L2
open PySem PySem.Spec PyProof.Rows PySem.Builtin.Str
section
variable{X:Cx}{e a c:Expr}{x y:Str}
theorem Er{f:Str->Prop}:∀{r:L},(match r with | .d (.str x)=>f x|_=>False)->∃z,r=.d (.str z)
 |.d (.str z),_=>⟨z,rfl⟩
noncomputable def Gr(x:Str)(n:Nat):Str:=⟨(List.replicate n x.cps).foldl (·++·) #[]⟩
theorem t8(xs:Array Nat):∀(k:Nat)(acc:Array Nat),((List.replicate k xs).foldl (·++·) acc).size=acc.size+xs.size*k
 |0,acc=>by simp
 | k+1,acc=>by rw[M3,List.foldl_cons,t8 xs k,Array.size_append,Nat.mul_succ];omega
theorem Ca:Jc X (binaryOp .Mult) (λx y H Q=>∃a n,x=.str a/\y=.int n/\(2<=n/\n<=1000/\1<=a.length/\a.length<=1000)/\Q (.str (Gr a n.toNat)) H):=by
 intro gV s σ H x y v u Q I rx ry ⟨a,n,e1,e2,⟨h1,h2,h3,h4⟩,q⟩;subst e1 e2;obtain⟨t,rfl⟩:=rx;obtain⟨t',rfl⟩:=ry;have c:(n == 1 ||a.length == 0)=false:=by rw[Bool.or_eq_false_iff,MT,MT];omega
 have hm:a.length*n.toNat<=1000*1000:=Nat.mul_le_mul h4 xL;refine PySem.P.mul_str (by rw[MP xL,MP xL];rfl) (λ_ _=>?_) (λ_ _=>?_) ?_
 .
  rw[Int.not_lt,Int.le_ediv_iff_mul_le xL];have e:((a.length:Int)*n)=((a.length*n.toNat:Nat):Int):=by rw[Int.natCast_mul,Int.toNat_of_nonneg xL]
  rw[e];omega
 .
  have e:sizeLine=16777216:=by decide
  unfold tooLong;exact MP xL
 .
  rw[if_neg (by omega),if_neg (by rw[c];decide)];have e:sizeLine=16777216:=by decide
  refine⟨?_,.str _,H,I.tok _,⟨_,rfl⟩,q⟩;show((List.replicate n.toNat a.cps).foldl (·++·) #[]).size<=sizeLine;rw[t8];have:a.length=a.cps.size:=rfl;rw[this]at hm;show 0+_<=_;omega
def t9:JB:=λx y k=>match x,y with
 |.str a,.int n=>2<=n/\n<=1000/\1<=a.length/\a.length<=1000/\k (.d (.str (Gr a n.toNat)))
 |_,_=>False
theorem Cb:JC X (binaryOp .Mult) t9:=JC.of Ca λσ H Pr Z x y dx dy p4 E px py h=>by
 unfold t9 at h;split at h
 case h_2=>exact h.elim
 rename_i a n;obtain⟨h1,h2,h3,h4,h⟩:=h;cases px;cases py;exact⟨a,n,rfl,rfl,⟨h1,h2,h3,h4⟩,_,E.cons_d (.str _),h⟩
end
end L2
namespace L2
open PySem PySem.Spec PyProof.Rows
section
def Gs(o:Option L)(P:Prop):Prop:=match o with
 |some (.d (.str _))=>P
 |_=>False
theorem Cc(x:Str)(P:Prop):Gs (some (.d (.str x))) P=P:=(rfl)
end
end L2
namespace L2
open PySem PySem.Spec PyProof.Rows PySem.Builtin.Str
def Ib(x:Str)(d:D)(P:Prop):Prop:=match d with
 |.gf z=>z=x/\P
 |_=>False
theorem Cd(x:Str)(P:Prop):Ib x (.gf x) P=P:=propext ⟨λh=>h.2,λh=>⟨rfl,h⟩⟩
section
variable{o:Expr}
def Ic(o:Option L)(k:Str->Prop):Prop:=match o with
 |some (.d (.str x))=>k x
 |_=>False
theorem Es(x:Str)(k:Str->Prop):Ic (some (.d (.str x))) k=k x:=(rfl)
end
end L2
namespace L2
open PySem PySem.Spec PyProof.Rows PySem.Builtin PySem.Builtin.Str
end L2
namespace PySem
open Sem (wp)
open AutoSeq1 (wpAny_loadPart')
end PySem
namespace L2
open PySem PySem.Spec PyProof.Rows PySem.Builtin.Str
section
variable{X:Cx}{apos cpos:Pos}{x:Str}
def Et:V->List V->Hp->VK->Prop:=λx vs H Q=>∃z,x=.str z/\vs=[]/\z.length<=5592405/\Q (.str (Txt.upper z)) H
theorem zE:Jq X "str.upper" Et:=by intro gV s σ H x vs v us Q I rx rv h;obtain⟨z,rfl,rfl,hz,q⟩:=h;obtain⟨t,rfl⟩:=rx;cases rv;exact SC.upper (PyProof.Rows.fit_upper hz) ⟨.str _,H,I.tok _,⟨_,rfl⟩,q⟩
def xk(to:W L):W L:=λZ p4=>to Z λr Z1=>match r with
 |.d (.str x)=>x.length<=5592405/\p4 (.d (.str (Txt.upper x))) Z1
 |_=>False
theorem zF{o:Expr}{to:W L}(ho:PL X o to) (hbase:attributeBase o "upper" X.env (eval o X.env)=eval o X.env:=by rfl) (hline:(apos.endLine == cpos.line)=true:=by rfl) :
  PL X (.Call (.Attribute o "upper" apos) [] [] cpos) (xk to):=by
 refine PL.of (Dv PySem.F.plainAttrs_str PySem.F.slot_str_upper PySem.F.type_str_upper zE ho.pe (hbase:=hbase) (hline:=hline)) λσ H Pr Z p4 E h=>?_;refine⟨Pr,Z,_,E,h,λv H' r Z' E' pp=>?_⟩;obtain⟨z,rfl⟩:∃z,r=.d (.str z):=Er pp;obtain⟨hz,pp⟩:=pp;obtain⟨_,e1,p1⟩:=E'.head_d;cases e1;cases p1;exact⟨rfl,z,rfl,rfl,hz,_,_,E'.tail.cons_d (.str _),pp⟩
end
end L2
namespace L2
open PySem PySem.Spec PyProof.Rows
theorem DR.of_reps{K:PySem.W.Frag}{H:Hp}:∀{vs:List (IG×V)}{ds:List D},bf K H (vs.map (·.2)) ds->DR K H vs ((vs.map (·.1)).zip ds)
 |[],_,.nil=>.nil
 |p::vs,_,.cons h t=>.cons ⟨rfl,h⟩ (DR.of_reps t)
section
variable{K:PySem.W.Frag}{H:Hp}
theorem Jx.dkOf{v:V}{ks:List IG}{ds:List D}(r:Jx K H v (.dk ks ds)):∃a o vs,v=.ref a/\H a=some (.frz o (.dK vs))/\vs.map (·.1)=ks/\DR K H vs (ks.zip ds):=by
 cases r with
 |dk h r=>exact⟨_,_,_,rfl,h,rfl,DR.of_reps r⟩
end
def Ky(i:Nat)(Z:Ev)(k:List (IG×D)->Prop):Prop:=match Z[i]? with
 |some (.d (.dk ks ds))=>k (ks.zip ds)
 |_=>False
section
variable{X:Cx}{a:Expr}
theorem IR.dkOk{gV:List (Addr×Obj)}{σ:St}{H:Hp}{s:Shared}{a:Addr}{o:Obj}{vs:List (IG×V)}(I:IR X gV σ H s)(h:H a=some (.frz o (.dK vs))):vs.length<=sizeLine/\(a == sysModules)=false/\∃us,KV vs us/\s.heap.DictOf (cf X.prog X.w) a us :=
 (show s.heap.get? a=some o/\_ from I.hok a _ h).2
def get2(ds:List D)(i:Nat)(Z1:Ev)(p4:L->Ev->Prop):Prop:=match ds with
 |[kd,y]=>mD kd λkey=>Ky i Z1 λkvs=>p4 (.d ((rZ kvs key).getD y)) Z1
 |_=>False
end
end L2
namespace L2
open PySem PySem.Spec PyProof.Rows PySem.SeqAt
section
variable{X:Cx}{pos p1 p2:Pos}
theorem ua{gV:List (Addr×Obj)}{s:Shared}{σ:St}{H Pr:Hp}{Z:Ev}{p4:L->Ev->Prop}{k v:Expr}{key:IG}{y:V}{d:D}(I:IR X gV σ H s)(E:ay X.K Pr H σ Z)
  (hk:∀s' H',IR X gV σ H' s'->∀Q:V->Hp->Prop,Q (kV key) H'->wpAny (model X.prog X.w) X.A (eval k X.env) (λu s1=>∃x H1,IR X gV σ H1 s1/\bF x u/\Q x H1) X.xe s')
  (hv:∀s' H',IR X gV σ H' s'->∀Q:V->Hp->Prop,Q y H'->wpAny (model X.prog X.w) X.A (eval v X.env) (λu s1=>∃x H1,IR X gV σ H1 s1/\bF x u/\Q x H1) X.xe s')
  (hy:Jx X.K H y d) (hq:p4 (.d (.dk [key] [d])) Z):wpAny (model X.prog X.w) X.A (eval (.Dict [some k] [v] pos) X.env) (EL X gV σ Pr p4) X.xe s:=by
 have hf:H s.heap.objs.size=none:=I.hok.fresh (ME _);have I1:=I.laid (a:=s.heap.objs.size) (o:=.dK []) (h':=s.heap.push {cls:=.type "dict",data:=.dict #[] }) (t':=s.toks) (λ_ _ q=>tu _ q) (ME _) ⟨NW _,I.past,[],.nil,Heap.DictOf.new s.heap⟩;refine wpAny_Dict_walk (knd:=cf X.prog X.w) rfl rfl v6 (by show 1<=15;decide) (pairTrees_cons_walk (IT (hk _ _ I1 (λv' H'=>v'=kV key/\H'=IH H s.heap.objs.size (.dK [])) ⟨rfl,rfl⟩) λu s1 ⟨x,H1,J1,rx,ex,e1⟩=>?_));subst ex e1;refine IT (hv s1 _ J1 (λv' H'=>v'=y/\H'=IH H s.heap.objs.size (.dK [])) ⟨rfl,rfl⟩) λu2 s2 ⟨x2,H2,J2,rx2,ex2,e2⟩=>?_;subst ex2 e2;refine pairTrees_nil_walk ?_;obtain⟨_,hS,vs0,r0,dd⟩:([]:List (IG×V)).length<=sizeLine/\(s.heap.objs.size == sysModules)=false/\∃vs,KV [] vs/\s2.heap.DictOf (cf X.prog X.w) s.heap.objs.size vs:=J2.hok s.heap.objs.size (.dK []) aG;cases r0;have hkey:(cf X.prog X.w).is key u=true:=uX rx;refine⟨[(key,u2)],⟨hkey,rfl,True.intro⟩,dd,λh' dd' hs=>?_⟩;have dd2:h'.DictOf (cf X.prog X.w) s.heap.objs.size [(key,u2)]:=dd'
 have he:∃q,h'.get? s.heap.objs.size=some q:=let ⟨q,_,_,hq,_⟩:=dd2;⟨q,hq⟩
 have J3:=J2.write (x:=s.heap.objs.size) (e:=s.heap.objs.size) (o:=.dK [(key,x2)]) (t':=s2.toks+1) (h':=h') (by rw[aG];trivial) (.inl rfl) (λb q hb z=>(hs.2 b hb).trans z) he ⟨by show 1<=sizeLine;decide,hS,[(key,u2)],.cons ⟨rfl,rx2⟩ .nil,dd2⟩;rw[q8]at J3;obtain⟨o,I2⟩:=J3.freezeD aG;rw[q8]at I2;refine⟨.ref s.heap.objs.size,_,.d (.dk [key] [d]),Z,I2,rfl,(E.new hf).cons_d (.dk (kvs:=[(key,x2)]) aG (.cons (hy.new hf) .nil)),hq⟩
def Kz(o p:Option L)(k:Str->D->Prop):Prop:=match o,p with
 |some (.d (.str x)),some (.d y)=>k x y
 |_,_=>False
theorem Gu(x:Str)(y:D)(k:Str->D->Prop):Kz (some (.d (.str x))) (some (.d y)) k=k x y:=(rfl)
theorem Eu{k:Str->D->Prop}:∀{o p:Option L},Kz o p k->∃x y,o=some (.d (.str x))/\p=some (.d y)/\k x y
 |some (.d (.str x)),some (.d y),h=>⟨x,y,rfl,rfl,h⟩
def Ce(i j:Nat):W L:=λZ p4=>Kz Z[i]? Z[j]? λx y=>p4 (.d (.dk [.inr x] [y])) Z
theorem Cf(i j:Nat){x y:Str}(hN:X.N[i]?=some x:=by rfl)(hv:IP X.env.scope x:=by first | exact Or.inl rfl | exact Or.inr (Or.inl rfl) | exact Or.inr (Or.inr rfl)) (hd:(x == ("__debug__" : Str))=false:=by decide)
  (hcd:(x == ("__classdict__" : Str))=false:=by decide) (hN2:X.N[j]?=some y:=by rfl) (hv2:IP X.env.scope y:=by first | exact Or.inl rfl | exact Or.inr (Or.inl rfl) | exact Or.inr (Or.inr rfl)) (hd2:(y == ("__debug__" : Str))=false:=by decide)
  (hcd2:(y == ("__classdict__" : Str))=false:=by decide):PL X (.Dict [some (.Name x p1)] [.Name y p2] pos) (Ce i j):=by
 intro gV s σ H Pr Z p4 I E hq;obtain⟨z,d,ez,ed,hq⟩:=Eu hq;obtain⟨sv,hs,v0,rfl,r0⟩:=E.slot ez;obtain⟨sv2,hs2,v2,rfl,r2⟩:=E.slot ed;cases r0;exact ua (key:=.inr z) I E (λs' H' I' Q q=>cm hN hv hd hcd gV s' σ H' Q I' ⟨_,hs,q⟩) (λs' H' I' Q q=>cm hN2 hv2 hd2 hcd2 gV s' σ H' Q I' ⟨_,hs2,q⟩) r2 hq
def KA(p:Option L)(k:D->Prop):Prop:=match p with
 |some (.d y)=>k y
 |_=>False
theorem Gv(y:D)(k:D->Prop):KA (some (.d y)) k=k y:=(rfl)
theorem Ew{k:D->Prop}:∀{p:Option L},KA p k->∃y,p=some (.d y)/\k y
 |some (.d y),h=>⟨y,rfl,h⟩
def Cg(c:Int)(j:Nat):W L:=λZ p4=>KA Z[j]? λy=>p4 (.d (.dk [.inl c] [y])) Z
theorem Ci{c:Int}{k:Nat}(j:Nat){y:Str}(hN2:X.N[j]?=some y:=by rfl)(hv2:IP X.env.scope y:=by first | exact Or.inl rfl | exact Or.inr (Or.inl rfl) | exact Or.inr (Or.inr rfl)) (hd2:(y == ("__debug__" : Str))=false:=by decide)
  (hcd2:(y == ("__classdict__" : Str))=false:=by decide):PL X (.Dict [some (.Constant (.int c) k p1)] [.Name y p2] pos) (Cg c j):=by
 intro gV s σ H Pr Z p4 I E hq;obtain⟨d,ed,hq⟩:=Ew hq;obtain⟨sv2,hs2,v2,rfl,r2⟩:=E.slot ed;exact ua (key:=.inl c) I E (λs' H' I' Q q=>Ai gV s' σ H' Q I' q) (λs' H' I' Q q=>cm hN2 hv2 hd2 hcd2 gV s' σ H' Q I' ⟨_,hs2,q⟩) r2 hq
noncomputable def yk:IG->PyData
 |.inl i=>.int i
 |.inr x=>.str x
mutual
noncomputable def KB:D->PyData
 |.non=>.none
 |.bl b=>.bool b
 |.int i=>.int i
 |.str x=>.str x
 |.tup xs=>.tuple (qU xs)
 |.lst xs=>.list (qU xs)
 |.dk ks vs=>.dict (FH ks vs)
 |.dct _=>.dict []
 |.exc _ _ _=>.dict []
 |.fn _ _=>.dict []
 |.gf _=>.dict []
noncomputable def qU:List D->List PyData
 |[]=>[]
 |x::xs=>KB x::qU xs
noncomputable def FH:List IG->List D->List (PyData×PyData)
 |k::_,v::_=>[(yk k,KB v)]
 |_,_=>[]
end
mutual
noncomputable def KC:D->Bool
 |.dct n=>n == 0
 |.exc _ _ _=>false
 |.fn _ _=>false
 |.dk ks vs=>Cj ks vs
 |.gf _=>false
 |.tup xs=>Az xs
 |.lst xs=>Az xs
 |_=>true
noncomputable def Az:List D->Bool
 |[]=>true
 |x::xs=>KC x && Az xs
noncomputable def Cj:List IG->List D->Bool
 |[_],[v]=>KC v
 |_,_=>false
end
section
variable{gV:List (Addr×Obj)}{σ:St}{H:Hp}{s:Shared}
theorem xl{h:Heap}{P:Program}{w:World}{k:IG}{u:Value}(e:(cf P w).is k u=true):Reads h u (yk k) []:=by
 cases k with
 | inl i =>
  have e:Value.isInt i u=true:=e;obtain⟨t,rfl⟩:=Value.isInt_shape e;exact .int i t
 | inr x =>
  have e:Value.isStrOf x u=true:=e;obtain⟨t,rfl⟩:=Value.isStrOf_shape e;exact .str x t
mutual
theorem xm(I:IR X gV σ H s):∀(d:D)(x:V)(u:Value),bF x u->Jx X.K H x d->KC d=true->∃as,Reads s.heap u (KB d) as/\sysModules∉as
 |.non,_,_,rv,r,_=>by cases r;cases rv;exact⟨_,.none,MS⟩
 |.bl b,_,_,rv,r,_=>by cases r;cases rv;exact⟨_,.bool b,MS⟩
 |.int i,_,_,rv,r,_=>by cases r;obtain⟨t,rfl⟩:=rv;exact⟨_,.int i t,MS⟩
 |.str z,_,_,rv,r,_=>by cases r;obtain⟨t,rfl⟩:=rv;exact⟨_,.str z t,MS⟩
 | .tup xs,_,_,rv,r,hc=>by
  cases r with
  | tup h rs =>
   cases rv
   obtain⟨its,vs,⟨o,e,c,n,d⟩,_⟩:=I.tuple h
   obtain⟨as,ra,hn⟩:=se I xs _ _ vs rs (by simpa only[KC]using hc)
   exact⟨_,.tuple (xs:=qU xs) e c d (by simpa using ra),hn⟩
 | .lst xs,_,_,rv,r,hc=>by
  cases r with
  | lst h rs =>
   cases rv
   obtain⟨its,vs,⟨o,n,e,c,_,d⟩,_⟩:=I.list h.l
   obtain⟨as,ra,hn⟩:=se I xs _ _ vs rs (by simpa only[KC]using hc)
   exact⟨_,.list (xs:=qU xs) e c d (by simpa using ra),λz=>(MC.mp z).elim (I.lst_sys h) hn⟩
 | .dct n,_,_,rv,r,hc=>by
  cases r with
  | dct h =>
   rename_i a o kvs
   cases rv
   have hk:kvs=[]:=by
    have:kvs.length=0:=by simpa only[KC,On]using hc
    exact NL.mp this
   subst hk
   obtain⟨_,_,_,vs,kv,o',es,ep,e,ex,d,_,pr,_⟩:=I.hok a _ h
   cases kv
   have he:es.toList=[]:=by
    cases q:es.toList with
    |nil=>rfl
    |cons x xs=>rw[q]at pr;cases pr
   refine⟨_,.dict (kvs:=[]) (as:=[]) (bs:=[]) e ex.1 d (by rw[he];exact .nil) (by rw[he];exact .nil),λz=>?_⟩
   exact(I.ne_sys h) (by simpa using z)
 | .dk [k] [d],_,u,rv,r,hc=>by
  obtain⟨a,o,vs,rfl,h,hk,dr⟩:=r.dkOf
  cases rv
  have dr:DR X.K H vs [(k,d)]:=dr
  obtain⟨p,rfl,hp⟩:∃p,vs=[p]/\p.1=k/\Jx X.K H p.2 d:=by
   cases dr with
   |cons h0 t=>cases t;exact⟨_,rfl,h0⟩
  obtain⟨_,_,us,kv,o',es,ep,e,ex,dt,_,pr,_⟩:=I.dkOk h
  obtain⟨q,rfl,hq⟩:∃q,us=[q]/\p.1=q.1/\bF p.2 q.2:=by
   cases kv with
   |cons h0 t=>cases t;exact⟨_,rfl,h0⟩
  obtain⟨en,he,h1,h2⟩:∃en,es.toList=[en]/\(cf X.prog X.w).is q.1 en.key=true/\en.val=q.2:=by
   cases z:es.toList with
   |nil=>rw[z]at pr;cases pr
   | cons en r =>
    rw[z]at pr
    cases pr with
    |cons g1 g2 g3=>cases g3;exact⟨en,rfl,g1,g2⟩
  obtain⟨bs,rb,nb⟩:=xm I d _ _ hq.2 hp.2 (by simpa only[KC,Cj]using hc)
  rw[<- hq.1,hp.1]at h1
  refine⟨_,.dict (kvs:=[(yk k,KB d)]) (as:=[]++[]) (bs:=bs++[]) e ex.1 dt (by rw[he];exact .cons (xl h1) .nil) (by rw[he];show ReadsAll _ [en.val] _ _;rw[h2];exact .cons rb .nil),λz=>?_⟩
  rcases ML.mp z with z|z
  .
   exact(I.ne_sys h) (by simpa using z)
  .
   exact nb (by simpa using z)
 |.dk [] _,_,_,_,_,hc=>by simp[KC,Cj]at hc
 |.dk (_::_::_) _,_,_,_,_,hc=>by simp[KC,Cj]at hc
 |.dk [_] [],_,_,_,_,hc=>by simp[KC,Cj]at hc
 |.dk [_] (_::_::_),_,_,_,_,hc=>by simp[KC,Cj]at hc
 |.exc _ _ _,_,_,_,_,hc=>by simp[KC]at hc
 |.fn _ _,_,_,_,_,hc=>by simp[KC]at hc
 |.gf _,_,_,_,_,hc=>by simp[KC]at hc
theorem se(I:IR X gV σ H s):∀(ds:List D)(vs:List V)(us:List Value),bL vs us->bf X.K H vs ds->Az ds=true->∃as,ReadsAll s.heap us (qU ds) as/\sysModules∉as
 |[],_,_,rv,r,_=>by cases r;cases rv;exact⟨_,.nil,MS⟩
 | d::ds,_,_,rv,r,hc=>by
  have hc':KC d=true/\Az ds=true:=by simpa[Az]using hc
  cases r with
  | cons r0 rs =>
   cases rv with
   | cons v0 vs =>
    obtain⟨as,ra,na⟩:=xm I d _ _ v0 r0 hc'.1
    obtain⟨bs,rb,nb⟩:=se I ds _ _ vs rs hc'.2
    exact⟨_,.cons ra rb,λz=>(ML.mp z).elim na nb⟩
end
end
structure WV (n s:Nat) (d:D):Prop where
 ok:KC d=true
 sh:(KB d).showable=true
 dp:(KB d).depth<=n
 len:(KB d).shown.length<=s
noncomputable def Ie(d:D):Str:=(KB d).shown
def ub:JO:=λds k=>∃d,ds=[d]/\WV 40 16777216 d/\(∃xs,d=.tup xs)/\k (.d (.str (Ie d)))
theorem xn{k:Nat}(hr:fw k X.A):eU X (.type "str") ub:=by
 intro gV s σ H Pr Z vs us ds p4 I r E ps ⟨d,e,ho,⟨xs,ex⟩,h⟩;subst e ex;obtain⟨v,rfl,rd⟩:=lA ps;obtain⟨u,rfl,ru⟩:=oA r;obtain⟨as,rr,hn⟩:=xm I (.tup xs) v _ ru rd ho.ok;have hdp:=ho.dp
 cases rd with
 | tup h1 h2 =>
  cases ru;refine str_of_reads rr ho.sh (λ_=>hn) hr.gd (by have:=hr.units;omega) (λ_ _ e=>e) (λh' t tk hk=>?_) ho.len;exact⟨.str _,H,_,I.kept (h':=h') (t':=tk) hk,⟨t,rfl⟩,E.cons_d (.str _),h⟩
theorem WV.mono{n s m t:Nat}{d:D}(h:WV n s d)(hn:n<=m)(hs:s<=t):WV m t d:=⟨h.ok,h.sh,MH h.dp hn,MH h.len hs⟩
theorem WV.all{n s:Nat}:∀{ds:List D},(∀d∈ds,WV n s d)->Az ds=true/\PyData.showableAll (qU ds)=true/\PyData.depthAll (qU ds)<=n/\((PyData.shownAll (qU ds)).map (·.length)).sum<=s*ds.length/\(PyData.shownAll (qU ds)).length=ds.length
 |[],_=>⟨rfl,rfl,NW _,ME _,rfl⟩
 | d::ds,h=>by have h0:=h d Mw;obtain⟨h1,h2,h3,h4,h5⟩:=WV.all λx hx=>h x (so _ hx);have dp:=h0.dp;have ln:=h0.len;refine⟨by simp only[Az,h0.ok,h1,Bool.and_self],by simp only[qU,PyData.showableAll,h0.sh,h2,Bool.and_self],by simp only[qU,PyData.depthAll];omega,?_,by simp only[qU,PyData.shownAll,MY,h5]⟩;simp only[qU,PyData.shownAll,MN,List.sum_cons,MY,Nat.mul_add,Nat.mul_one];omega
theorem WV.two{n s m t:Nat}{ds:List D}(h:∀d∈ds,WV n s d)(hn:n+1<=m)(hs:(s+2)*ds.length+3<=t):WV m t (.tup ds)/\WV m t (.lst ds):=by obtain⟨h1,h2,h3,h4,h5⟩:=WV.all h;have t1:=tupleText_len_le (PyData.shownAll (qU ds));have t2:=listText_len_le (PyData.shownAll (qU ds));rw[Nat.add_mul]at hs;refine⟨⟨by simpa only[KC]using h1,by simpa only[KB,PyData.showable]using h2,MH (Nat.succ_le_succ h3) hn,by simp only[KB,PyData.shown];omega⟩,⟨by simpa only[KC]using h1,by simpa only[KB,PyData.showable]using h2,MH (Nat.succ_le_succ h3) hn,by simp only[KB,PyData.shown];omega⟩⟩
theorem WV.int{i:Int}(h:i.natAbs<2^1900):WV 0 602 (.int i):=by
 refine⟨rfl,?_,ME 0,Nat.le_succ_of_le (qk h)⟩;simp only[KB,PyData.showable,Nr];by_cases h0:i.natAbs=0
 . rw[h0];decide
 . exact(Nat.log2_lt h0).mpr (Mz h (Nv x_ x_))
theorem WV.str{n:Nat}{x:Str}(h:x.length<=n)(ha:∀c∈x.cps.toList,c<128):WV 0 (10*n+2) (.str x):=by refine⟨rfl,rfl,ME 0,?_⟩;have e:=PySem.StrLaws.reprText_len x λc hc=>Mz (ha c hc) x_;simp only[KB,PyData.shown];omega
theorem WV.dk{n s m t r:Nat}{k:IG}{d:D}(hk:(yk k).showable=true/\(yk k).depth=0/\(yk k).shown.length<=r)(h:WV n s d)(hn:n+1<=m)(hs:r+s+10<=t):WV m t (.dk [k] [d]):=by
 have t1:=dictText_len_le (PyData.shownKv [(yk k,KB d)]);have ln:=h.len;have dp:=h.dp;refine⟨by simpa only[KC,Cj]using h.ok,by simp only[KB,FH,PyData.showable,PyData.showableKv,hk.1,h.sh,Bool.and_self],?_,?_⟩
 . simp only[KB,FH,PyData.depth,PyData.depthKv,hk.2.1];omega
 .
  have e2:(": " : Str).length=2:=by decide +kernel
  have t2:((yk k).shown++": "++(KB d).shown).length=(yk k).shown.length+2+(KB d).shown.length:=by rw[strLen_append,strLen_append,e2]
  simp only[PyData.shownKv,MN,List.map_nil,List.sum_cons,List.sum_nil,MY,NY,t2]at t1;have:=hk.2.2;simp only[KB,FH,PyData.shown,PyData.shownKv];omega
end
end L2
namespace L2
open PySem
theorem lV{g:Tg}{b:W Fl}{p4:Fl->Ev->Prop}:∀(xs:List D)(I:Nat->Ev->Prop)(Z:Ev),I 0 Z ->
  (∀j x Z,xs[j]?=some x->I j Z->∀Q:Fl->Ev->Prop,(∀Z',I (j+1) Z'->Q .nx Z')->(∀Z',I (j+1) Z'->Q .ct Z')->(∀Z',p4 .nx Z'->Q .bk Z')->(∀r Z',p4 (.rt r) Z'->Q (.rt r) Z')->g x Z λZ1=>b Z1 Q) ->
  (∀Z,I xs.length Z->p4 .nx Z)->hW g b xs Z p4
 |[],I,Z,h0,_,IV=>IV Z h0
 | x::xs,I,Z,h0,step,IV=>by
  unfold hW;refine step 0 x Z rfl h0 _ (λZ' h=>?_) (λZ' h=>?_) (λZ' h=>h) (λr Z' h=>h)
  . exact lV xs (λj=>I (j+1)) Z' h (λj y Z e hi=>step (j+1) y Z e hi) IV
  . exact lV xs (λj=>I (j+1)) Z' h (λj y Z e hi=>step (j+1) y Z e hi) IV
theorem uc{g:Tg}{ti:W Bool}{te:W L}{k:List D->Ev->Prop}:∀(xs:List D)(I:Nat->Ev->List D->Prop)(Z:Ev)(acc:List D),I 0 Z acc ->
  (∀j x Z acc,xs[j]?=some x->I j Z acc->∀Q:Ev->List D->Prop,(∀Z' acc',I (j+1) Z' acc'->Q Z' acc')->g x Z λZ1=>ti Z1 λb Z2=>if b=true then te Z2 λr Z3=>JA r λy=>Q Z3 (acc++[y])else Q Z2 acc) ->
  (∀Z acc,I xs.length Z acc->k acc Z)->g6 g ti te xs Z acc k
 |[],I,Z,acc,h0,_,IV=>IV Z acc h0
 | x::xs,I,Z,acc,h0,step,IV=>by unfold g6;exact step 0 x Z acc rfl h0 (λZ acc=>g6 g ti te xs Z acc k) λZ' acc' h=>uc xs (λj=>I (j+1)) Z' acc' h (λj y Z acc e hi=>step (j+1) y Z acc e hi) IV
theorem mH{α:Type}{enc:α->D}{h:α->Option D}{caps:Ev}{ti:W Bool}{te:W L}{k:List D->Ev->Prop}:∀(as:List α)(acc:List D)(l:L),
  (∀a∈as,∀Q:Ev->Option D->Prop,Q (.d (enc a)::caps) (h a)->ti (.d (enc a)::caps) λb Z2=>if b=true then te Z2 λr Z3=>JA r λy=>Q Z3 (some y)else Q Z2 none) ->
  (∀l',k (acc++as.filterMap h) (l'::caps))->g6 (cw 0) ti te (as.map enc) (l::caps) acc k
 |[],acc,l,_,IV=>by have:=IV l;simpa[g6]using this
 | a::as,acc,l,step,IV=>by
  show g6 (cw 0) ti te (enc a::as.map enc) (l::caps) acc k;unfold g6;show ti (.d (enc a)::caps) _
  refine step a Mw (λZ o=>match o with|some y=>g6 (cw 0) ti te (as.map enc) Z (acc++[y]) k|none=>g6 (cw 0) ti te (as.map enc) Z acc k) ?_
  cases e:h a with
  |none=>exact mH as acc _ (λb hb=>step b (so _ hb)) (by simpa[Og,e]using IV)
  |some y=>exact mH as (acc++[y]) _ (λb hb=>step b (so _ hb)) (by simpa[Og,e]using IV)
theorem oZ{α:Type}{enc:α->D}{h:α->D}{caps:Ev}{te:W L}{k:List D->Ev->Prop}(as:List α)(acc:List D)(l:L)
  (step:∀a∈as,∀Q:Ev->D->Prop,Q (.d (enc a)::caps) (h a)->te (.d (enc a)::caps) λr Z3=>JA r λy=>Q Z3 y)
  (IV:∀l',k (acc++as.map h) (l'::caps)):g6 (cw 0) ng te (as.map enc) (l::caps) acc k:=by
 refine mH (h:=λa=>some (h a)) as acc l (λa ha Q q=>?_) (by simpa using IV);simp only[ng,if_true];exact step a ha (λZ y=>Q Z (some y)) q
theorem sf{α:Type}{x:α}{xs:List α}:Jo (x::xs) 0=some x:=fW (j:=0) rfl
theorem si{α:Type}{x y:α}{xs:List α}:Jo (x::y::xs) 1=some y:=fW (j:=1) rfl
theorem Ey{α:Type}{x y z:α}{xs:List α}:Jo (x::y::z::xs) 2=some z:=fW (j:=2) rfl
theorem Ez{α:Type}{x y z w:α}{xs:List α}:Jo (x::y::z::w::xs) 3=some w:=fW (j:=3) rfl
theorem Gw{α:Type}{x y z w v:α}{xs:List α}:Jo (x::y::z::w::v::xs) 4=some v:=fW (j:=4) rfl
theorem xq{α:Type}{xs:List α}{i:Int}{x:α}(h0:0<=i)(h:xs[i.toNat]?=some x):Jo xs i=some x:=by have:=fW h;rwa [Int.toNat_of_nonneg h0]at this
theorem Ck{α:Type}{f:α->D}{xs:List α}{k:Nat}(h:k<xs.length):Jo (xs.map f) (k:Int)=some (f xs[k]):=fW (by rw[Nc,MG h];rfl)
theorem Ig:Jn 3 0=some 0:=by decide
theorem Ih:Jn 3 1=some 1:=by decide
theorem Ii:Jn 3 2=some 2:=by decide
theorem o4(n:Nat):oO 0 n=(List.range n).map λ(i:Nat)=>D.int (i:Int):=by unfold oO;simp
theorem zG{g:Tg}{b:W Fl}{p4:Fl->Ev->Prop}(lo:Int)(n:Nat)(I:Nat->Ev->Prop)(Z:Ev)(h0:I 0 Z)
  (step:∀j Z,j<n->I j Z->∀Q:Fl->Ev->Prop,(∀Z',I (j+1) Z'->Q .nx Z')->(∀Z',I (j+1) Z'->Q .ct Z')->(∀Z',p4 .nx Z'->Q .bk Z')->(∀r Z',p4 (.rt r) Z'->Q (.rt r) Z')->g (.int (lo+(j:Int))) Z λZ1=>b Z1 Q)
  (IV:∀Z,I n Z->p4 .nx Z):hW g b (oO lo n) Z p4:=by
 have hl:(oO lo n).length=n:=by simp[oO]
 refine lV _ I Z h0 (λj x Z hj hi Q h1 h2 h3 h4=>?_) λZ h=>IV Z (by rwa [hl]at h);have hj':j<n:=by rw[<- hl];exact(Mx.mp hj).1
 have e:x=.int (lo+(j:Int)):=by unfold oO at hj;rw[Nc,List.getElem?_range hj']at hj;exact(MZ hj).symm
 subst e;exact step j Z hj' hi Q h1 h2 h3 h4
theorem bA{i:Int}(h:i.natAbs<2^200):cM i:=Mz h (Nv x_ x_)
theorem gi(x:Int){m:Int}(h:0<m):0<=x.fmod m/\x.fmod m<m:=by rw[M5 _ xL];exact⟨N7 _ xL,N4 _ h⟩
theorem sj{i:Int}{n:Nat}(h0:0<=i)(h:i<2^n)(hn:n<=1000000):cM i:=by
 have:i.natAbs<2^n:=by
  have e:((2^n:Nat):Int)=(2:Int)^n:=by simp
  omega
 exact Mz this (Nv x_ hn)
theorem Gx:(10:Int)^60<2^200:=by decide
theorem qo{i:Int}(h0:0<=i)(h:i<=10^60):i.natAbs<2^9000:=by
 have:i.natAbs<2^200:=by
  have:=Gx;have e:((2^200:Nat):Int)=(2:Int)^200:=by decide
  omega
 exact Mz this (Nv x_ x_)
theorem RB.of_divInt{t b:Int}{n:Nat}(h:b≠0)(ht:t.natAbs<2^n)(hb:b.natAbs<2^n):RB n (Rat.divInt t b):=⟨Nd (Aq h) ht,Nd (Ap h) hb⟩
structure KD where
 nm:Str
 one:Nat
 other:Nat
 size:Rat
structure bO where
 rooms:List Rat
 asks:List KD
noncomputable def bO.n(R:bO):Nat:=R.rooms.length
noncomputable def fU(a:KD):D:=.tup [.str a.nm,.int a.one,.int a.other,JX a.size]
noncomputable def dW(R:bO):D:=.tup [.lst (R.rooms.map JX),.lst (R.asks.map fU)]
theorem EC(q:Rat):(q.num:Rat)=q*(q.den:Rat):=by
 have h:=Rat.num_divInt_den q;have hd:(q.den:Rat)≠0:=λw=>by have:=Rat.natCast_pos.mpr q.den_pos;rw[w]at this;exact absurd this x_
 rw[Rat.divInt_eq_div]at h;have e:(((q.den:Nat):Int):Rat)=(q.den:Rat):=rfl;rw[e]at h;have e2:q*(q.den:Rat)=(q.num:Rat) / (q.den:Rat)*(q.den:Rat):=by rw[h]
 rw[e2,Rat.div_mul_cancel hd]
structure qp (n:Nat) (a:KD):Prop where
 one:a.one<n
 other:a.other<n
 ne:a.one≠a.other
 size:0<=a.size
 lt:a.size<((2^300:Nat):Rat)
 nm:PyData.strOk a.nm=true
structure bO.Ok (R:bO):Prop where
 lo:2<=R.n
 hi:R.n<=12
 few:R.asks.length<=20
 room:∀q∈R.rooms,0<q/\RB 60 q
 ask:∀a∈R.asks,qp R.n a
 cd:∃D:Nat,0<D/\D<2^1240/\∀a∈R.asks,a.size.den∣D
theorem o5{α:Type}{n:Nat}{f:α->D}:∀xs:List α,(∀x∈xs,JY n (f x)=true)->vo n (xs.map f)=true
 |[],_=>rfl
 |x::xs,h=>by simp[vo,h x Mw,o5 xs λy hy=>h y (so _ hy)]
theorem AA(n:Nat)(q:Rat):JY (n+1) (JX q)=true:=by cases n<;>simp[JX,JY,vo]
theorem Cm{n:Nat}{a:KD}(h:qp n a):JY 2 (fU a)=true:=by simp[fU,JY,vo,h.nm,AA]
theorem xr(qs:List Rat):bY (.lst (qs.map JX)):=cx (n:=2) (by simp only[JY];exact o5 _ λq _=>AA 0 q) x_
def eV(xs:List D):Prop:=∃(c sd:Int)(t:Bool),xs=[.int c,.int sd,.bl t]/\0<=sd/\sd<2147483647
theorem zH{t b g:Int}(h:b≠0)(e:g=cN t b):D.tup [.int (t.fdiv g),.int (b.fdiv g)]=JX (Rat.divInt t b):=by subst e;rw[wu h,Bv h];rfl
noncomputable def Ij(qs:List Rat):Nat:=(qs.map (·.den)).foldr (·*·) 1
noncomputable def Cn(qs:List Rat):Rat:=qs.foldl (·+·) 0
theorem xu(qs:List Rat):∀acc:Rat,qs.foldl (·+·) acc=acc+Cn qs:=by
 unfold Cn
 induction qs with
 |nil=>intro acc;simp[Rat.add_zero]
 |cons q qs ih=>intro acc;rw[List.foldl_cons,List.foldl_cons,ih,ih (0+q),Rat.zero_add,Rat.add_assoc]
theorem xv(q:Rat)(qs:List Rat):Cn (q::qs)=q+Cn qs:=by show(q::qs).foldl (·+·) 0=_;rw[List.foldl_cons,xu,Rat.zero_add]
theorem zJ{xs:List D}{i:Int}{k:L->Prop}:bI (.lst xs) (.int i) k=∃v,Jo xs i=some v/\k (.d v):=rfl
theorem zK{xs:List D}{i:Int}{k:L->Prop}:bI (.tup xs) (.int i) k=∃v,Jo xs i=some v/\k (.d v):=rfl
theorem zL{z:Str}{i:Int}{k:L->Prop}:bI (.str z) (.int i) k=(z.length<=sizeLine/\∃c,Jo z.cps.toList i=some c/\k (.d (.str ⟨#[c]⟩))):=rfl
theorem zM{R:bO}{k:L->Prop}:bI (dW R) (.int 0) k=k (.d (.lst (R.rooms.map JX))):=by show(∃v,Jo _ _=some v/\_)=_;simp only[sf,M0,Ny]
theorem zN{R:bO}{k:L->Prop}:bI (dW R) (.int 1) k=k (.d (.lst (R.asks.map fU))):=by show(∃v,Jo _ _=some v/\_)=_;simp only[si,M0,Ny]
theorem Co{a:KD}{k:L->Prop}:bI (fU a) (.int 0) k=k (.d (.str a.nm)):=by show(∃v,Jo _ _=some v/\_)=_;simp only[sf,M0,Ny]
theorem Cp{a:KD}{k:L->Prop}:bI (fU a) (.int 1) k=k (.d (.int a.one)):=by show(∃v,Jo _ _=some v/\_)=_;simp only[si,M0,Ny]
theorem Cq{a:KD}{k:L->Prop}:bI (fU a) (.int 2) k=k (.d (.int a.other)):=by show(∃v,Jo _ _=some v/\_)=_;simp only[Ey,M0,Ny]
theorem Cr{a:KD}{k:L->Prop}:bI (fU a) (.int 3) k=k (.d (JX a.size)):=by show(∃v,Jo _ _=some v/\_)=_;simp only[Ez,M0,Ny]
theorem ED{q:Rat}{k:L->Prop}:bI (JX q) (.int 0) k=k (.d (.int q.num)):=by show(∃v,Jo _ _=some v/\_)=_;simp only[sf,M0,Ny]
theorem EE{q:Rat}{k:L->Prop}:bI (JX q) (.int 1) k=k (.d (.int (q.den:Int))):=by show(∃v,Jo _ _=some v/\_)=_;simp only[si,M0,Ny]
theorem AB(q:Rat):J0 (JX q)=true:=by simp[JX,J0,kJ]
theorem lW{α:Type}{f:α->D}:∀(xs:List α),(∀x∈xs,J0 (f x)=true)->kJ (xs.map f)=true
 |[],_=>rfl
 |x::xs,h=>by simp[kJ,h x Mw,lW xs λy hy=>h y (so _ hy)]
theorem ud(qs:List Rat):kJ (qs.map JX)=true:=lW _ λq _=>AB q
theorem xw{α:Type}(f:α->Int)(xs:List α):kJ (xs.map λx=>D.int (f x))=true:=lW _ λ_ _=>rfl
theorem xx(R:bO):R.rooms.length=R.n:=rfl
noncomputable def EF(w:Bool):Str:=if w then "on" else "back"
theorem ue:bY (.str "on"):=cx (n:=0) y_ x_
theorem nV:bY (.str "back"):=cx (n:=0) y_ x_
theorem xy(w:Bool):bY (.str (EF w)):=by
 cases w
 . exact nV
 . exact ue
theorem EG(w:Bool):(EF w="on")=(w=true):=by cases w <;> simp[EF] <;> decide
theorem zO(w:Bool):(EF w="back")=(w=false):=by cases w <;> simp[EF] <;> decide
theorem xA{is:List Nat}{xs:List D}{Z:Ev}{k:Ev->Prop}:lz is (.tup xs) Z k=hU is xs Z k:=rfl
theorem xB{is:List Nat}{a:KD}{Z:Ev}{k:Ev->Prop}:lz is (fU a) Z k=hU is [.str a.nm,.int a.one,.int a.other,JX a.size] Z k:=rfl
theorem zQ{is:List Nat}{q:Rat}{Z:Ev}{k:Ev->Prop}:lz is (JX q) Z k=hU is [.int q.num,.int (q.den:Int)] Z k:=rfl
theorem sk{xs:List D}{k:List D->Prop}:mf (.lst xs) k=k xs:=rfl
theorem sq{xs:List D}{k:List D->Prop}:mf (.tup xs) k=k xs:=rfl
theorem uZ{q:Rat}{k:List D->Prop}:mf (JX q) k=k [.int q.num,.int (q.den:Int)]:=rfl
theorem xC{xs:List D}{k:L->Prop}:d4 [.lst xs] k=k (.d (.int xs.length)):=rfl
theorem xD{xs:List D}{k:L->Prop}:d4 [.tup xs] k=k (.d (.int xs.length)):=rfl
theorem xE{x:Str}{k:L->Prop}:d4 [.str x] k=(x.length<=sizeLine/\k (.d (.int x.length))):=rfl
theorem zR{q:Rat}{k:L->Prop}:d4 [JX q] k=k (.d (.int 2)):=rfl
theorem u4{R:bO}{k:L->Prop}:d4 [dW R] k=k (.d (.int 2)):=rfl
theorem xF{a:KD}{k:L->Prop}:d4 [fU a] k=k (.d (.int 4)):=rfl
theorem sr(q:Rat):je "tuple" (JX q)=true:=rfl
theorem su(q:Rat):je "list" (JX q)=false:=rfl
theorem sx(q:Rat):je "int" (JX q)=false:=rfl
theorem qq(q:Rat):je "bool" (JX q)=false:=rfl
theorem sy(q:Rat):je "str" (JX q)=false:=rfl
theorem o6(R:bO):je "tuple" (dW R)=true:=rfl
noncomputable def KF(n:Nat)(f:Nat->Rat):List D:=(List.range n).map λ(t:Nat)=>JX (f t)
theorem Ct(n:Nat)(f:Nat->Rat):(KF n f).length=n:=by simp[KF]
theorem Cu(n:Nat)(f:Nat->Rat):KF n f=((List.range n).map f).map JX:=by unfold KF;rw[List.map_map];rfl
theorem zS(n:Nat)(f:Nat->Rat):kJ (KF n f)=true:=by rw[Cu];exact ud _
noncomputable def sD(c:Nat×Nat):D:=.tup [.int (c.1:Int),.int (c.2:Int)]
theorem Cv{c:Nat×Nat}{k:L->Prop}:bI (sD c) (.int 0) k=k (.d (.int c.1)):=by show(∃v,Jo _ _=some v/\_)=_;simp only[sf,M0,Ny]
theorem Cw{c:Nat×Nat}{k:L->Prop}:bI (sD c) (.int 1) k=k (.d (.int c.2)):=by show(∃v,Jo _ _=some v/\_)=_;simp only[si,M0,Ny]
theorem Cy(n:Nat)(c:Nat×Nat):JY (n+1) (sD c)=true:=by cases n<;>simp[sD,JY,vo]
theorem xG(c:Nat×Nat):J0 (sD c)=true:=by simp[sD,J0,kJ]
theorem xH(c:Nat×Nat):bY (sD c):=cx (Cy 0 c) x_
theorem Cz(c d:Nat×Nat):JN (sD c) (sD d)=decide (c=d):=by
 unfold sD;rw[wB,jL,jL,tJ,jg,jg,Bool.and_true,<- Bool.decide_and,decide_eq_decide];constructor
 . rintro⟨h1,h2⟩;exact Prod.ext xL xL
 . rintro rfl;exact⟨rfl,rfl⟩
noncomputable def gP(g:Rat×(Nat×Nat)):D:=.tup [JX g.1,sD g.2]
theorem Gy{g:Rat×(Nat×Nat)}{k:L->Prop}:bI (gP g) (.int 0) k=k (.d (JX g.1)):=by show(∃v,Jo _ _=some v/\_)=_;simp only[sf,M0,Ny]
theorem Gz{g:Rat×(Nat×Nat)}{k:L->Prop}:bI (gP g) (.int 1) k=k (.d (sD g.2)):=by show(∃v,Jo _ _=some v/\_)=_;simp only[si,M0,Ny]
theorem zT(T:String):je T .non=(T == "NoneType"):=rfl
theorem CA(T:String)(b:Bool):je T (.bl b)=(T == "bool" ||T == "int"):=rfl
theorem zU(T:String)(i:Int):je T (.int i)=(T == "int"):=rfl
theorem zV(T:String)(x:Str):je T (.str x)=(T == "str"):=rfl
theorem zW(T:String)(xs:List D):je T (.tup xs)=(T == "tuple"):=rfl
theorem zX(T:String)(xs:List D):je T (.lst xs)=(T == "list"):=rfl
theorem u5(g:Rat×(Nat×Nat)):je "tuple" (gP g)=true:=rfl
theorem qr(c:Nat×Nat):je "tuple" (sD c)=true:=rfl
theorem qt(a:KD):je "tuple" (fU a)=true:=rfl
theorem xI{c:Nat×Nat}{k:L->Prop}:d4 [sD c] k=k (.d (.int 2)):=rfl
theorem CB{c:Rat×(Nat×Nat)}{k:L->Prop}:d4 [gP c] k=k (.d (.int 2)):=rfl
theorem xJ(cs:List (Nat×Nat)):kJ (cs.map sD)=true:=lW _ λc _=>xG c
end L2
namespace L2
open PySem PySem.Builtin.Str
theorem CC{x y:Str}(h:x.cps.toList=y.cps.toList):x=y:=by cases x;cases y;exact Os Str.mk (Array.toList_inj.mp h)
theorem zY{x:Str}{j:Int}(h0:0<=j)(h2:j<=x.length):(Txt.slice x none (some j)).cps.toList=x.cps.toList.take j.toNat:=by have:=eq_of_beq (PyProof.Rows.slice_closes_toL h0 h2);rw[this];simp
theorem u6{x:Str}{i:Int}(h0:0<=i)(h2:i<=x.length):(Txt.slice x (some i) none).cps.toList=x.cps.toList.drop i.toNat:=by
 rw[PyProof.Rows.slice_from_eq h0 h2 rfl];have e:x.cps.toList.length=x.length:=by simp[Str.length]
 rw[NZ];rw[Nm,e];omega
theorem jT(x y:Str):(x++y).cps.toList=x.cps.toList++y.cps.toList:=by show(x.cps++y.cps).toList=_;simp
theorem iH(x:Str):x.length=x.cps.toList.length:=by simp[Str.length]
def kM(c:Nat):Prop:=97<=c/\c<=122
structure sE (z:Str):Prop where
 lo:1<=z.cps.toList.length
 hi:z.cps.toList.length<=8
 let_:∀c∈z.cps.toList,kM c
theorem sE.ok{z:Str}(h:sE z):PyData.strOk z=true:=by unfold PyData.strOk;rw[<- Array.all_toList,Nq];intro c hc;have:=h.let_ c hc;unfold kM at this;simp;omega
noncomputable def o7:Str:="abcdefghijklmnopqrstuvwxyz"
theorem qu:o7.cps.toList=(List.range 26).map (·+97):=by decide
theorem nW{i:Int}(h0:0<=i)(h1:i<26):Jo o7.cps.toList i=some (i.toNat+97):=by refine xq h0 ?_;rw[qu,Nc,List.getElem?_range xL];rfl
theorem nX:∀(zs:List Str),(Str.join "" zs).cps.toList=(zs.map λz=>z.cps.toList).flatten
 |[]=>rfl
 |[x]=>by simp[Str.join]
 | x::y::r=>by have ih:=nX (y::r);show(x++("" : Str)++Str.join "" (y::r)).cps.toList=_;rw[jT,jT,ih];show x.cps.toList++[]++_=_;simp
theorem zZ(zs:List Str):(Txt.join "" zs).cps.toList=(zs.map λz=>z.cps.toList).flatten:=by rw[eq_of_beq (PyProof.Rows.join_closes (sep:="") (sep':="") (ys:=zs) rfl),nX]
theorem qv:∀cs:List Nat,(cs.map λc=>[c]).flatten=cs
 |[]=>rfl
 |c::cs=>by rw[MN,NO,qv cs];rfl
theorem kN(cs:List Nat):(Txt.join "" (cs.map λc=>(⟨#[c]⟩:Str))).cps.toList=cs:=by rw[zZ,List.map_map];exact qv cs
theorem uf:∀cs:List Nat,((cs.map λc=>(⟨#[c]⟩:Str)).map (·.length)).sum=cs.length
 |[]=>rfl
 | c::cs=>by rw[MN,MN,List.sum_cons,uf cs,MY];show 1+_=_;omega
noncomputable def nameAt(b:Str)(p t k:Nat):Str:=⟨(b.cps.toList.take p++[(t+k) % 26+97]++b.cps.toList.drop (p+1)).toArray⟩
theorem xK{b:Str}{p t k:Nat}(h:sE b)(hp:p<b.cps.toList.length):sE (nameAt b p t k):=by
 have e:(nameAt b p t k).cps.toList=b.cps.toList.take p++[(t+k) % 26+97]++b.cps.toList.drop (p+1):=by simp[nameAt]
 have l:(b.cps.toList.take p++[(t+k) % 26+97]++b.cps.toList.drop (p+1)).length=b.cps.toList.length:=by rw[MK,MK,M8,Nm,NQ];omega
 refine⟨by rw[e,l];exact h.lo,by rw[e,l];exact h.hi,λc hc=>?_⟩;rw[e]at hc;rcases ML.mp hc with hc|hc
 .
  rcases ML.mp hc with hc|hc
  . exact h.let_ c (Nu hc)
  . rw[Nk.mp hc];unfold kM;have:=Nat.mod_lt (t+k) (y:=26) x_;omega
 . exact h.let_ c (List.mem_of_mem_drop hc)
theorem u7{b:Str}{p t j k:Nat}(hp:p<b.cps.toList.length)(hj:j<26)(hk:k<26)(h:nameAt b p t j=nameAt b p t k):j=k:=by
 have e:b.cps.toList.take p++[(t+j) % 26+97]++b.cps.toList.drop (p+1)=b.cps.toList.take p++[(t+k) % 26+97]++b.cps.toList.drop (p+1):=by have:=Os (λz:Str=>z.cps.toList) h;simpa[nameAt]using this
 rw[MV,MV]at e;have e2:=List.append_cancel_left e;have e3:=(List.cons.inj e2).1;omega
theorem qw{α β:Type}{f:α->β}:∀{xs:List α},xs.Nodup->(∀x∈xs,∀y∈xs,f x=f y->x=y)->(xs.map f).Nodup
 |[],_,_=>Oj
 | x::xs,hn,h=>by rw[MN,MQ];obtain⟨h1,h2⟩:=MQ.mp hn;refine⟨λhm=>?_,qw h2 λa ha b hb=>h a (so _ ha) b (so _ hb)⟩;obtain⟨y,hy,e⟩:=ND.mp hm;have:=h y (so _ hy) x Mw e;rw[this]at hy;exact h1 hy
theorem z0{q:Rat}(h:RB 60 q):q<((2^300:Nat):Rat):=by
 have h1:=EC q;have hd:(1:Rat)<=(q.den:Rat):=by have:=q.den_pos;exact_mod_cast this
 have h2:(q.num:Rat)<((2^300:Nat):Rat):=by
  have h3:q.num<((2^300:Nat):Int):=by have:=Mz h.1 (Nv (show 0<2 by decide) (show 60<=300 by decide));omega
  exact Rat.intCast_lt_intCast.mpr h3
 have hV:(0:Rat)<((2^300:Nat):Rat):=Rat.natCast_pos.mpr (Nat.pow_pos x_);generalize ((2^300:Nat):Rat)=V at *;refine Rat.not_le.mp λhq=>?_;have h4:V*1<=q*(q.den:Rat):=Rat.le_trans (Rat.mul_le_mul_of_nonneg_left hd (Rat.le_of_lt hV)) (Rat.mul_le_mul_of_nonneg_right hq (by grind));rw[<- h1]at h4;grind
noncomputable def C2:List KD->Nat
 |[]=>1
 |a::as=>a.size.den*C2 as
theorem ug:∀as,0<C2 as
 |[]=>Nat.one_pos
 |a::as=>Nat.mul_pos a.size.den_pos (ug as)
theorem xM:∀{as:List KD},(∀a∈as,RB 60 a.size)->C2 as<=2^(60*as.length)
 |[],_=>ME 1
 | a::as,h=>by have h1:=(h a Mw).2;have h2:=xM (as:=as) λp hp=>h p (so _ hp);show a.size.den*C2 as<=2^(60*(as.length+1));rw[Nat.mul_add,Nat.mul_one,Nat.pow_add,Nat.mul_comm (2^_)];exact Nat.mul_le_mul (Nat.le_of_lt h1) h2
theorem uh:∀{as:List KD}{a:KD},a∈as->a.size.den∣C2 as
 | b::as,a,h=>by
  rcases MC.mp h with rfl|h
  . exact Nat.dvd_mul_right _ _
  . exact Nat.dvd_trans (uh h) (Nat.dvd_mul_left _ _)
theorem GA{as:List KD}(h:∀a∈as,RB 60 a.size)(hl:as.length<=20):∃D:Nat,0<D/\D<2^1240/\∀a∈as,a.size.den∣D:=by refine⟨C2 as,ug as,Nd (xM h) (Nat.pow_lt_pow_right x_ xL),λa ha=>uh ha⟩
end L2
namespace L2
open PySem
noncomputable def KG(n i j:Nat):List Nat:=(List.range ((j+n-i) % n)).map λs=>(i+s) % n
noncomputable def GB(n i j:Nat):List Nat:=(List.range ((i+n-j) % n)).map λs=>(i+n-1-s) % n
noncomputable def GC(n:Nat)(a:KD)(w:Bool):List Nat:=if w then KG n a.one a.other else GB n a.one a.other
noncomputable def KH(n i j:Nat):Nat:=(j+n-i) % n
noncomputable def GD(n:Nat)(a:KD)(t:Nat):Bool:=decide (KH n a.one t<KH n a.one a.other)
theorem RB.sum{b:Nat}:∀(qs:List Rat),(∀q∈qs,RB b q)->RB (1+(b+1)*qs.length) (Cn qs)
 |[],_=>RB.mono (m:=1) ⟨x_,x_⟩ xL
 | q::qs,h=>by have ih:=RB.sum qs λz hz=>h z (so _ hz);rw[xv];refine((h q Mw).add ih).mono ?_;rw[MY,Nat.mul_succ];omega
noncomputable def GE(n:Nat)(a:KD)(p:Rat)(t:Nat):Rat:=if GD n a t then p else a.size-p
noncomputable def EH(n:Nat)(as:List KD)(ps:List Rat)(t:Nat):Rat:=Cn ((as.zip ps).map λx=>GE n x.1 x.2 t)
noncomputable def vx(c:Nat×Nat)(p:Nat):Bool:=decide (c.1<p/\p<=c.2)
noncomputable def apart(c:Nat×Nat)(i j:Nat):Bool:=vx c i != vx c j
noncomputable def CD(as:List KD)(c:Nat×Nat):Rat:=Cn ((as.filter λa=>apart c a.one a.other).map (·.size))
noncomputable def bO.room(R:bO)(t:Nat):Rat:=R.rooms.getD t 0
noncomputable def EJ(R:bO)(c:Nat×Nat):Rat:=R.room c.1+R.room c.2
noncomputable def Hh(R:bO)(c:Nat×Nat):Rat:=CD R.asks c / EJ R c
def GF(n:Nat)(c:Nat×Nat):Prop:=c.1<=c.2/\c.2<n
def GG(qs:List Rat):Prop:=Ij qs<2^9000∨∃D:Nat,0<D/\D<2^4400/\∀q∈qs,q.den∣D
noncomputable def bO.sz(R:bO)(k:Nat):Rat:=(R.asks.map (·.size)).getD k 0
end L2
namespace My
open PySem L2
noncomputable def qx(R:bO)(j:Nat):KD:=(R.asks[j]?).getD ⟨"",0,0,0⟩
noncomputable def KI(R:bO)(j t:Nat):Bool:=GD R.n (qx R j) t
noncomputable def dI(R:bO)(w:Nat->Int)(k g h:Nat):Int:=((List.range (R.asks.length-k)).map λi=>if KI R (k+i) g != KI R (k+i) h then w (k+i)else 0).sum
def Ik(R:bO)(w f:Nat->Int)(k:Nat):Prop:=∀g h,g<R.n->h<R.n->dI R w k g h<=f g+f h/\(f g+f h-dI R w k g h) % 2=0
noncomputable def GH(R:bO)(w f:Nat->Int)(k:Nat)(p:Int)(t:Nat):Int:=f t-if KI R k t then p else w k-p
noncomputable def KJ(i j:Int):Int:=if j<i then j else i
noncomputable def KL(R:bO)(k:Nat):List Nat:=(PySem.W.sortI ((GC R.n (qx R k) true).map λ(t:Nat)=>(t:Int))).map Int.toNat
noncomputable def Il(R:bO)(w f:Nat->Int)(k g h:Nat):Int:=f g+f h-dI R w (k+1) g h
noncomputable def EK(R:bO)(w f:Nat->Int)(k:Nat)(acc:Int)(g:Nat)(hs:List Nat):Int:=hs.foldl (λt h=>if decide (g<=h)then KJ t (Il R w f k g h)else t) acc
noncomputable def EM(R:bO)(w f:Nat->Int)(k:Nat)(gs:List Nat):Int:=gs.foldl (λt g=>EK R w f k t g (KL R k)) (2*w k)
noncomputable def EN(R:bO)(w f:Nat->Int)(k:Nat):Int:=(EM R w f k (KL R k)).fdiv 2
noncomputable def KM(R:bO)(w f:Nat->Int):Nat->Nat->Int
 |0=>f
 |k+1=>GH R w (KM R w f k) k (EN R w (KM R w f k) k)
noncomputable def KN(R:bO)(w f:Nat->Int)(k:Nat):Int:=EN R w (KM R w f k) k
noncomputable def KO(qs:List Rat):Nat:=qs.foldl (λb q=>Nat.lcm b q.den) 1
noncomputable def EO(u:Nat)(q:Rat):Int:=q.num*((u / q.den:Nat):Int)
noncomputable def ER(R:bO):List Rat:=R.asks.map (·.size)
noncomputable def GI(R:bO)(q:Rat):List Rat:=R.rooms.map λr=>q*r
noncomputable def KP(R:bO)(q:Rat):Nat:=KO (ER R++GI R q)
noncomputable def AC(R:bO)(q:Rat):Nat:=2*KP R q
noncomputable def wI(R:bO)(q:Rat)(j:Nat):Int:=EO (AC R q) (qx R j).size
noncomputable def KQ(R:bO)(q:Rat)(t:Nat):Int:=EO (AC R q) (q*R.room t)
noncomputable def pI(R:bO)(q:Rat)(k:Nat):Int:=KN R (wI R q) (KQ R q) k
end My
set_option exponentiation.threshold 2000
namespace L2
open PySem
end L2
set_option exponentiation.threshold 5000
namespace My
open PySem L2
structure LB (R:bO) (ps:List Rat):Prop where
 p:∀p∈ps,RB 4100 p
 ld:∀k t,RB 4100 (EH R.n (R.asks.take k) (ps.take k) t)
 st:∀(k:Nat)(h1:k<R.asks.length)(h2:k<ps.length)(t:Nat),RB 4100 (GE R.n R.asks[k] ps[k] t)
 sm:∀t,GG ((R.asks.zip ps).map λx=>GE R.n x.1 x.2 t)
theorem LB.all{R:bO}{ps:List Rat}(h:LB R ps)(hl:ps.length=R.asks.length)(t:Nat):RB 4100 (EH R.n R.asks ps t):=by have:=h.ld R.asks.length t;rwa [NZ (ME _),NZ xL]at this
noncomputable def zI(R:bO)(q:Rat)(t j:Nat):Int:=if GD R.n (qx R j) t then pI R q j else wI R q j-pI R q j
noncomputable def nq:D->Bool
 |.tup [.int i,.int j]=>decide (1<=j) && decide ((Int.gcd i j:Int)=1)
 |_=>false
theorem CF{d:D}(h:∀i j,d≠.tup [.int i,.int j]):nq d=false:=by
 unfold nq;split
 . rename_i i j;exact absurd rfl (h i j)
 . rfl
noncomputable def o8(c:Nat):Bool:=rR "a" ⟨#[c]⟩ && rR ⟨#[c]⟩ "z"
noncomputable def lC:D->Bool
 |.str x=>(decide (1<=x.cps.size) && decide (x.cps.size<=8)) && x.cps.toList.all o8
 |_=>false
def AD(d:D):Prop:=∀x,d=.str x->x.cps.all (· < 128)=true/\x.cps.size<1000000
theorem z6(x:Str):x.length=x.cps.size:=by simp[Str.length]
mutual
noncomputable def xN:D->Nat
 |.tup xs=>max xs.length (sF xs)
 |.lst xs=>max xs.length (sF xs)
 |_=>0
noncomputable def sF:List D->Nat
 |[]=>0
 |x::xs=>max (xN x) (sF xs)
end
theorem ui{n:Nat}:∀{xs:List D},(∀x∈xs,xN x<=n)->sF xs<=n
 |[],_=>NW _
 | y::ys,h=>by simp only[sF];have:=h y Mw;have:=ui (xs:=ys) λx hx=>h x (so _ hx);omega
theorem CG(q:Rat):xN (JX q)=2:=by simp[JX,xN,sF]
theorem z7(a:KD):xN (fU a)=4:=by have:=CG a.size;simp[fU,xN,sF,this]
theorem xO{as:List KD}{n:Nat}(h:as.length<=n)(h2:4<=n):xN (.lst (as.map fU))<=n:=by
 simp only[xN,MD];have:=ui (n:=4) (xs:=as.map fU) λx hx=>by obtain⟨q,_,rfl⟩:=ND.mp hx;rw[z7];exact ME _
 omega
structure KR (n:Nat) (d:D):Prop where
 dep:tR d<n
 wid:xN d<=99
theorem KR.mono{n m:Nat}{d:D}(h:KR n d)(hm:n<=m):KR m d:=⟨Mz h.dep hm,h.wid⟩
theorem CH(q:Rat):tR (JX q)=1:=by simp[JX,tR,rW]
theorem z8(a:KD):tR (fU a)=2:=by have:=CH a.size;simp[fU,tR,rW,this]
theorem z9{xs:List D}{n:Nat}(h:∀x∈xs,tR x<=n):tR (.lst xs)<=n+1:=by simp only[tR];have:=tS h;omega
theorem xP(as:List KD):tR (.lst (as.map fU))<=3:=z9 λx hx=>by obtain⟨q,_,rfl⟩:=ND.mp hx;rw[z8];exact ME _
theorem KR.asks{as:List KD}(h:as.length<=99):KR 4 (.lst (as.map fU)):=⟨by have:=xP as;omega,xO h x_⟩
end My
set_option exponentiation.threshold 5000
namespace My
open PySem L2
structure Im where
 top:Rat
 strict:Bool
 elder:List (Option Bool)
 most:Nat
noncomputable def ES(x:Option Bool×Option Bool):Bool:=match x.1 with
 |none=>false
 |some a=>x.2 == some (!a)
noncomputable def GJ(el ws:List (Option Bool)):List Nat:=((el.zip ws).zipIdx.filter λx=>ES x.1).map (·.2)
noncomputable def GK(st:Bool)(load bound:Int):Bool:=decide (bound<load) ||(st && decide (load=bound))
end My
set_option exponentiation.threshold 5000
namespace My
open PySem L2
noncomputable def Hi:Nat->(Nat->Int)->Int
 |0,_=>0
 |n+1,f=>Hi n f+f n
inductive Tr where
 |turned
 |cut (c:Nat×Nat)
 |split (k:Nat) (a b:Tr)
noncomputable def KS(R:bO)(fixed:List (Option Bool))(c:Nat×Nat)(i:Nat):Int:=match fixed.getD i none with
 |none=>if apart c (qx R i).one (qx R i).other then 1 else 0
 |some b=>(if KI R i c.1 == b then 1 else 0)+if KI R i c.2 == b then 1 else 0
noncomputable def GL(R:bO)(q:Rat)(fixed:List (Option Bool))(c:Nat×Nat):Int:=Hi R.asks.length λi=>wI R q i*KS R fixed c i
def Tr.Ok(R:bO)(w:Im):List (Option Bool)->Tr->Prop
 |fixed,.turned=>w.most<(GJ w.elder fixed).length
 |fixed,.cut c=>GF R.n c/\GK w.strict (GL R w.top fixed c) (KQ R w.top c.1+KQ R w.top c.2)=true
 |fixed,.split k a b=>k<fixed.length/\fixed.getD k none=none/\Tr.Ok R w (fixed.set k (some true)) a/\Tr.Ok R w (fixed.set k (some false)) b
end My
set_option exponentiation.threshold 5000
namespace My
open PySem L2
structure GM where
 k:Nat
 kw:Bool
 l:Nat
 lw:Bool
 am:Rat
noncomputable def KU(R:bO)(ps:List Rat)(k:Nat)(w:Bool):Rat:=if w then R.sz k-ps.getD k 0 else ps.getD k 0
noncomputable def KW(R:bO)(ps:List Rat)(k:Nat)(kw:Bool)(l:Nat)(lw:Bool):Rat:=if KU R ps l lw<KU R ps k kw then KU R ps l lw else KU R ps k kw
noncomputable def GN(n:Nat)(a:KD)(aw:Bool)(b:KD)(bw:Bool):Bool:=!((GC n a aw).any λt=>decide (t∈GC n b bw))
end My
set_option exponentiation.threshold 5000
namespace My
open PySem L2
end My
set_option exponentiation.threshold 5000
namespace My
open PySem L2
noncomputable def JT(R:bO)(ps:List Rat)(s:GM):Bool:=!decide (s.k=s.l) && (GN R.n (qx R s.k) s.kw (qx R s.l) s.lw && (decide (0<s.am) && !decide (KW R ps s.k s.kw s.l s.lw<s.am)))
end My
set_option exponentiation.threshold 5000
namespace My
open PySem L2
end My
set_option exponentiation.threshold 5000
namespace My
open PySem L2
noncomputable def yk(p:Nat×Nat):D:=.lst [.int (p.1:Int),.int (p.2:Int)]
noncomputable def Tr.nodes:Tr->Nat
 |.turned=>1
 |.cut _=>1
 |.split _ a b=>a.nodes+b.nodes+1
noncomputable def Tr.dep:Tr->Nat
 |.turned=>0
 |.cut _=>0
 |.split _ a b=>max a.dep b.dep+1
noncomputable def xQ(f:Tr->Nat)(ts:List Tr):Nat:=(ts.map f).sum
theorem Aa(f:Tr->Nat)(as bs:List Tr):xQ f (as++bs)=xQ f as+xQ f bs:=by simp[xQ]
theorem Ab(f:Tr->Nat)(t:Tr):xQ f [t]=f t:=by simp[xQ]
structure Pt (n:Nat) (d:D):Prop where
 dep:tR d<=n
 wid:xN d<=99
 same:xc (20+n) d=true
theorem Pt.int(i:Int):Pt 0 (.int i):=⟨by simp[tR],by simp[xN],by simp[xc]⟩
end My
set_option exponentiation.threshold 5000
namespace My
open PySem L2
noncomputable def Io:D->Option Nat
 |.int i=>if 0<=i then some i.toNat else none
 |_=>none
theorem uj(q:Rat):nq (JX q)=true:=by unfold JX nq;have h1:=q.den_pos;have h2:=q.reduced;unfold Nat.Coprime at h2;rw[MR,Nr,Nr];refine⟨xL,?_⟩;show((Nat.gcd q.num.natAbs ((q.den:Int)).natAbs:Nat):Int)=1;rw[NK,h2];rfl
noncomputable def gj(d:D)(n:Int):Bool:=match d with
 |.int i=>decide (0<=i/\i<n)
 |_=>false
noncomputable def KY:D->Bool
 |.tup [.int i,.int j]=>nq (.tup [.int i,.int j]) && decide (0<i)
 |_=>false
theorem ET{d:D}(h:∀i j,d≠.tup [.int i,.int j]):KY d=false:=by
 unfold KY;split
 . exact absurd rfl (h _ _)
 . rfl
noncomputable def NR(p:Str)(n:D):Xc:=⟨"NoRing",["part","number"],[.str p,n]⟩
noncomputable def mI:Option Nat->D
 |none=>.non
 |some i=>.int i
noncomputable def cY:D->Option (Option Nat)
 |.lst rs=>if 2<=rs.length/\rs.length<=12 then(rs.findIdx? λr=>!KY r).map some else some none
 |_=>some none
noncomputable def EU:D->Bool
 |.tup (.int i::_)=>decide (0<=i)
 |_=>false
noncomputable def u9(n:Int):D->Bool
 |.tup [a,b,c,s]=>lC a && nq s && (gj b n && gj c n) && (!(JN b c) && EU s)
 |_=>false
noncomputable def lD:D->Str
 |.tup (.str x::_)=>x
 |_=>""
noncomputable def dU(n:Int):List D->List Str->Nat->Option Nat
 |[],_,_=>none
 |a::r,tk,i=>if u9 n a=true/\lD a∉tk then dU n r (lD a::tk) (i+1)else some i
noncomputable def kO(n:Int):D->Option (Option Nat)
 |.lst as=>(dU n as [] 0).map some
 |_=>some none
noncomputable def df(n:Int):D->Option (Option Nat)
 |.lst as=>if 20<as.length then some none else kO n (.lst as)
 |d=>kO n d
noncomputable def EV:D->Int
 |.lst xs=>(xs.length:Int)
 |_=>0
noncomputable def dz:D->Option (Str×Option Nat)
 | .tup [r,a]=>match cY r with
  |some k=>some ("rooms",k)
  |none=>(df (EV r) a).map λk=>("asks",k)
 |_=>some ("ring",none)
def qV(d:D):Prop:=∀xs,d=.tup xs->∀a,xs[0]?=some a->AD a
def qy(d:D):Prop:=∀as,d=.lst as->as.length<=1000/\∀a∈as,qV a
theorem sG(n:Int)(a b c s:D):u9 n (.tup [a,b,c,s])=(lC a && nq s && (gj b n && gj c n) && (!(JN b c) && EU s)):=rfl
theorem uk{d:D}{n:Int}(h:gj d n=true):∃i,d=.int i:=by
 cases d with
 |int i=>exact⟨i,rfl⟩
 |_=>cases h
theorem CI{n:Int}{d:D}(h:u9 n d=true):∃x i j s,d=.tup [.str x,.int i,.int j,s]/\lC (.str x)=true/\nq s=true:=by
 unfold u9 at h;split at h
 .
  rename_i a b c s;simp only[MR]at h;obtain⟨⟨⟨h1,h2⟩,h3,h4⟩,_⟩:=h
  have e1:∃x,a=.str x:=by
   cases a with
   |str x=>exact⟨x,rfl⟩
   |_=>cases h1
  have e2:∃i,b=.int i:=by
   cases b with
   |int i=>exact⟨i,rfl⟩
   |_=>cases h3
  have e3:∃i,c=.int i:=by
   cases c with
   |int i=>exact⟨i,rfl⟩
   |_=>cases h4
  obtain⟨x,rfl⟩:=e1;obtain⟨i,rfl⟩:=e2;obtain⟨j,rfl⟩:=e3;exact⟨x,i,j,s,rfl,h1,h2⟩
 . cases h
theorem um{d:D}(h:nq d=true):∃i j,d=.tup [.int i,.int j]:=by
 unfold nq at h;split at h
 . exact⟨_,_,rfl⟩
 . cases h
theorem qz{c:Nat}(h:kM c):o8 c=true:=by
 have all:∀c:Fin 123,97<=c.val->o8 c.val=true:=by decide +kernel
 exact all ⟨c,by have:=h.2;omega⟩ h.1
theorem Ac{z:Str}(h:sE z):lC (.str z)=true:=by have h1:=h.lo;have h2:=h.hi;rw[Of]at h1 h2;simp only[lC,MR,Nr,Nq];exact⟨⟨h1,h2⟩,λc hc=>qz (h.let_ c hc)⟩
theorem AE{q:Rat}(h:0<q):KY (JX q)=true:=by
 show(nq (JX q) && decide (0<q.num))=true;rw[uj,N2];have h0:=Rat.num_nonneg.mpr (Rat.le_of_lt h);have h1:q.num≠0:=λz=>by have:q=0:=Rat.num_eq_zero.mp z;rw[this]at h;exact absurd h x_
 exact Nn xL
theorem xR{n:Nat}{a:KD}(h:qp n a)(hz:sE a.nm):u9 (n:Int) (fU a)=true:=by
 have h1:=h.one;have h2:=h.other;have h3:=h.ne;have e:JN (.int a.one) (.int a.other)=false:=by show decide ((a.one:Int)=(a.other:Int))=false;exact MP xL
 show(lC (.str a.nm) && nq (JX a.size) && (gj (.int a.one) n && gj (.int a.other) n) && (!(JN (.int a.one) (.int a.other)) && decide (0<=a.size.num)))=true;rw[Ac hz,uj,e,show gj (.int a.one) n=true from Nn xL,show gj (.int a.other) n=true from Nn xL,Nn (Rat.num_nonneg.mpr h.size)];rfl
theorem mJ{n:Nat}:∀(as:List KD)(tk:List Str)(i:Nat),(∀a∈as,qp n a/\sE a.nm)->(as.map (·.nm)).Nodup->(∀a∈as,a.nm∉tk)->dU (n:Int) (as.map fU) tk i=none
 |[],_,_,_,_,_=>rfl
 | a::as,tk,i,h,nd,hn=>by
  rw[MN,MQ]at nd;rw[MN];unfold dU;have e:lD (fU a)=a.nm:=rfl;rw[if_pos ⟨xR (h a Mw).1 (h a Mw).2,by rw[e];exact hn a Mw⟩,e];refine mJ as _ _ (λb hb=>h b (so _ hb)) nd.2 λb hb z=>?_;rcases MC.mp z with z|z
  . exact nd.1 (by rw[<- z];exact List.mem_map_of_mem (f:=(·.nm)) hb)
  . exact hn b (so _ hb) z
theorem jU{qs:List Rat}(h:∀q∈qs,0<q)(h1:2<=qs.length)(h2:qs.length<=12):cY (.lst (qs.map JX))=none:=by
 unfold cY;dsimp only;rw[if_pos (by rw[MD];exact⟨h1,h2⟩)];have e:(qs.map JX).findIdx? (λr=>!KY r)=none:=by rw[List.findIdx?_eq_none_iff];intro x hx;obtain⟨q,hq,rfl⟩:=ND.mp hx;rw[AE (h q hq)];rfl
 rw[e];rfl
theorem qC{R:bO}(h:R.Ok)(hz:∀a∈R.asks,sE a.nm)(nd:(R.asks.map (·.nm)).Nodup):dz (dW R)=none:=by
 unfold dW dz;dsimp only;rw[jU (λq hq=>(h.room q hq).1) h.lo h.hi];have hf:=h.few;have e:EV (.lst (R.rooms.map JX))=(R.n:Int):=by simp[EV,bO.n]
 dsimp only;simp only[df,e];rw[if_neg (by rw[MD];omega)];simp only[kO];rw[mJ R.asks [] 0 (λa ha=>⟨h.ask a ha,hz a ha⟩) nd λa _ z=>by simp at z];rfl
noncomputable def xS(i:Nat)(xs:List D):List D:=(xs.zipIdx i).map λp=>.tup [.int (p.2:Int),p.1]
theorem nY(xs:List D):nj xs=xS 0 xs:=rfl
theorem nZ(i:Nat)(x:D)(xs:List D):xS i (x::xs)=.tup [.int (i:Int),x]::xS (i+1) xs:=rfl
theorem n4{g:Tg}{b:W Fl}{x:D}{xs:List D}{Z:Ev}{p4:Fl->Ev->Prop}:hW g b (x::xs) Z p4=g x Z λZ1=>b Z1 λf Z2=>match f with
  |.nx=>hW g b xs Z2 p4
  |.ct=>hW g b xs Z2 p4
  |.bk=>p4 .nx Z2
  |.rt r=>p4 (.rt r) Z2:=rfl
noncomputable def KZ(zs:List Str):List (IG×D):=zs.map λx=>(.inr x,.bl true)
theorem uo{x:Str}:∀zs:List Str,(rZ (KZ zs) (.inr x)).isSome=decide (x∈zs)
 |[]=>by simp[KZ,rZ]
 | z::zs=>by
  have ih:=uo (x:=x) zs;unfold KZ at ih ⊢;rw[MN];unfold rZ;by_cases e:z=x
  . subst e;simp
  . have e1:¬((Sum.inr z:IG)=.inr x):=λq=>e (Sum.inr.inj q);simp only[e1,if_false,MC,show(x=z)=False from by simp[NH e],false_or];exact ih
theorem Ad{x:Str}{zs:List Str}(h:x∉zs):BV (KZ zs) (.inr x) (.bl true)=KZ (zs++[x]):=by
 unfold BV;have e:((KZ zs).any λp=>decide (p.1=.inr x))=false:=by rw[List.any_eq_false];intro p hp;obtain⟨z,hz,rfl⟩:=ND.mp hp;simp only[Nr];intro q;exact h (by rw[<- Sum.inr.inj q];exact hz)
 rw[e];simp[KZ]
theorem CJ(zs:List Str):(KZ zs).length=zs.length:=by simp[KZ]
theorem qD{n:Int}:∀(as:List D)(t1 t2:List Str)(i:Nat),(∀x,x∈t1↔x∈t2)->dU n as t1 i=dU n as t2 i
 |[],_,_,_,_=>rfl
 | a::as,t1,t2,i,h=>by
  have e:=qD (n:=n) as (lD a::t1) (lD a::t2) (i+1) λx=>by rw[MC,MC,h]
  simp only[dU,e,h]
end My
set_option exponentiation.threshold 5000
namespace My
open PySem L2 PyProof.Rows
theorem CK(x:Str):x.length=x.cps.toList.length:=by show x.cps.size=_;simp
end My
namespace My
open PySem L2 PySem.Builtin.Str
structure As (n:Nat) (x:Str):Prop where
 len:x.length<=n
 asc:∀c∈x.cps.toList,c<128
theorem As.mono{n m:Nat}{x:Str}(h:As n x)(k:n<=m):As m x:=⟨MH h.len k,h.asc⟩
theorem EW{n:Nat}{x:Str}(h:(decide (x.length<=n) && x.cps.toList.all (· < 128))=true):As n x:=by obtain⟨a,b⟩:=NM.mp h;exact⟨Oa a,λc hc=>Oa (Nq.mp b c hc)⟩
theorem mK{ds:List D}{P:D->Prop}(h:∀d∈ds,P d){k:Int}(k0:0<=k)(k1:k<ds.length):∃v,Jo ds k=some v/\P v:=by
 have hk:k.toNat<ds.length:=by omega
 exact⟨ds[k.toNat],xq k0 (MG hk),h _ (Oh hk)⟩
def TS(P:Str->Prop)(t:W L)(Z:Ev):Prop:=∀p4:L->Ev->Prop,(∀x,P x->p4 (.d (.str x)) Z)->t Z p4
theorem TS.mono{P Q:Str->Prop}{t:W L}{Z:Ev}(h:TS P t Z)(k:∀x,P x->Q x):TS Q t Z:=λp4 hp=>h p4 λx hx=>hp x (k x hx)
end My
namespace My
open PySem L2 PySem.Builtin PySem.Builtin.Str PySem.StrLaws
theorem EX{t:W Bool}{a b u:W Fl}{Z:Ev}{p4:Fl->Ev->Prop}(ht:∀k:Bool->Ev->Prop,k false Z->t Z k)(h:a8 b u Z p4):a8 (JH t a b) u Z p4:=ht _ h
theorem CL{u:W Fl}{Z:Ev}{p4:Fl->Ev->Prop}(h:u Z p4):a8 bH u Z p4:=h
end My
set_option exponentiation.threshold 5000
namespace My
open PySem L2 PySem.Builtin PySem.Builtin.Str PySem.StrLaws
noncomputable abbrev cC:List Nat:=[99,117,116]
def FI:Tr->Prop
 |.turned=>True
 |.cut c=>c.1<12/\c.2<12
 |.split k a b=>k<20/\FI a/\FI b
theorem As.ok{n:Nat}{x:Str}(h:As n x):PyData.strOk x=true:=by unfold PyData.strOk;simp only[Array.all_eq_true_iff_forall_mem];intro c hc;have:=h.asc c (Array.mem_toList_iff.mpr hc);simp;omega
noncomputable def tR(t:Tr):D:=.int (t.dep:Int)
structure AF (m:Nat) (ts:List Tr):Prop where
 one:0<ts.length
 all:∀t∈ts,FI t/\t.dep<=20
 sum:xQ Tr.nodes ts+ts.length<=m
theorem xT(f:Tr->Nat)(t:Tr)(ts:List Tr):xQ f (t::ts)=f t+xQ f ts:=by simp[xQ]
theorem AF.mono{m n:Nat}{ts:List Tr}(h:AF m ts)(k:m<=n):AF n ts:=⟨h.one,h.all,MH h.sum k⟩
theorem AF.add{m:Nat}{ts:List Tr}{t:Tr}(h:ts=[]∨AF m ts)(hn:t.nodes=1)(hd:t.dep=0)(ok:FI t):AF (m+2) (ts++[t]):=by
 refine⟨v6,λu hu=>?_,?_⟩
 .
  rcases ML.mp hu with hu|hu
  .
   rcases h with rfl|h
   . cases hu
   . exact h.all u hu
  . rw[Nk.mp hu];exact⟨ok,xL⟩
 .
  rw[Aa,Ab,hn,MK];rcases h with rfl|h
  . show 0+1+(0+1)<=m+2;omega
  . have:=h.sum;simp only[MY,NY];omega
theorem AF.nodes{m:Nat}{ts:List Tr}{t:Tr}(h:AF m ts)(ht:t∈ts):t.nodes<=m:=by
 have hs:=h.sum
 have:t.nodes<=xQ Tr.nodes ts:=by
  clear h hs
  induction ts with
  |nil=>cases ht
  | cons u ts ih =>
   rw[xT];rcases MC.mp ht with rfl|ht
   . omega
   . have:=ih ht;omega
 omega
theorem lX{α:Type}(xs:List α)(k:Nat):vn xs none (some (k:Int))=xs.take k:=by unfold vn;rw[HT.sIx_none,HT.sIx_nat,Nat.sub_zero,List.drop_zero,List.take_eq_take_iff];omega
theorem Ae{α:Type}(xs:List α)(k:Nat):vn xs (some (k:Int)) none=xs.drop k:=by
 unfold vn;rw[HT.sIx_none,HT.sIx_nat,NZ (by rw[Nm];exact ME _)];by_cases c:k<=xs.length
 . rw[Nat.min_eq_left c]
 . rw[Nat.min_eq_right xL,List.drop_eq_nil_of_le (ME _),List.drop_eq_nil_of_le xL]
end My
set_option exponentiation.threshold 5000
namespace My
open PySem L2
noncomputable def K0(n s:Nat)(d:D):Bool:=(KC d && (KB d).showable) && (decide ((KB d).depth<=n) && decide ((KB d).shown.length<=s))
theorem dA{n s:Nat}{d:D}(h:K0 n s d=true):WV n s d:=by unfold K0 at h;simp only[MR,Nr]at h;exact⟨h.1.1,h.1.2,h.2.1,h.2.2⟩
theorem cz{i:Int}(h:i.natAbs<2^60):WV 0 602 (.int i):=.int (Mz h (Nv x_ x_))
theorem va{q:Rat}(h:RB 60 q):WV 1 1300 (JX q):=(WV.two (n:=0) (s:=602) (m:=1) (t:=1300) (ds:=[.int q.num,.int (q.den:Int)]) (λd hd=>by
 simp only[MC,MS,Oi]at hd;rcases hd with rfl|rfl
 . exact cz h.1
 .
  exact cz (by rw[NK];exact h.2)) x_ (by show(602+2)*2+3<=1300;decide)).1
theorem o9{n:Nat}{x:Str}(h:As n x):WV 0 (10*n+2) (.str x):=.str h.len h.asc
theorem uq{z:Str}(h:sE z):As 8 z:=by refine⟨by rw[CK];exact h.hi,λc hc=>?_⟩;have:=(h.let_ c hc).2;omega
theorem AG{n:Nat}{a:KD}(h:qp n a)(hn:n<=12)(hz:sE a.nm)(ht:RB 60 a.size):WV 2 6000 (fU a):=(WV.two (n:=1) (s:=1300) (m:=2) (t:=6000) (ds:=[.str a.nm,.int (a.one:Int),.int (a.other:Int),JX a.size]) (λd hd=>by
 have h1:=h.one;have h2:=h.other;simp only[MC,MS,Oi]at hd;rcases hd with rfl|rfl|rfl|rfl
 . exact(o9 (uq hz)).mono x_ x_
 . exact(cz (Mz (show((a.one:Int)).natAbs<13 by rw[NK];omega) x_)).mono x_ x_
 . exact(cz (Mz (show((a.other:Int)).natAbs<13 by rw[NK];omega) x_)).mono x_ x_
 .
  exact va ht) x_ (by show(1300+2)*4+3<=6000;decide)).1
structure Hj (d:D):Prop where
 no:nq d=false
 wv:WV 3 2000 d
theorem GO{d:D}(h:nq d=false):KY d=false:=by
 unfold KY;split
 . rw[h,Nx]
 . rfl
structure Af (d:D):Prop where
 no:lC d=false
 asc:AD d
 wv:WV 1 1300 d
noncomputable def Hl:D->Bool
 |.str x=>x.cps.all (· < 128) && decide (x.cps.size<1000000)
 |_=>true
theorem EY{d:D}(h:Hl d=true):AD d:=λx e=>by subst e;obtain⟨a,b⟩:=NM.mp h;exact⟨a,Oa b⟩
noncomputable def K1(d:D):Bool:=(!lC d && Hl d) && K0 1 1300 d
theorem Af.of{d:D}(h:K1 d=true):Af d:=by unfold K1 at h;rw[MR,MR,Bool.not_eq_true']at h;exact⟨h.1.1,EY h.1.2,dA h.2⟩
end My
set_option exponentiation.threshold 1000
namespace Hd
open PySem PySem.W PyProof.Rows
noncomputable abbrev pr:Program:=PySem.Challenge.pw_ringloads_k06_rings_refused
noncomputable def top(i:Nat):Stmt:=pr.main.body.getD i (.Pass ⟨0,0,0,0⟩)
noncomputable def inCls(st:Stmt)(j:Nat):Stmt:=match st with
 |.ClassDef _ _ _ b ..=>b.getD j (.Pass ⟨0,0,0,0⟩)
 |_=>.Pass ⟨0,0,0,0⟩
noncomputable def xU(s:Stmt):Str:=match s with
 |.FunctionDef n ..=>n
 |_=>""
noncomputable def Fb(s:Stmt):Arguments:=match s with
 |.FunctionDef _ a _ _ _ _ _ _ _ _=>a
 |_=>{posonlyargs:=[],args:=[],vararg:=none,kwonlyargs:=[],kw_defaults:=[],kwarg:=none,defaults:=[] }
noncomputable def GP(s:Stmt):List Stmt:=match s with
 |.FunctionDef _ _ b _ _ _ _ _ _ _=>b
 |_=>[]
noncomputable def Fc(s:Stmt):Scope:=match s with
 |.FunctionDef _ _ _ _ _ _ sc _ _ _=>sc
 |_=>{kind:=.function,names:=[],isGenerator:=false,isCoroutine:=false}
noncomputable def Hm(s:Stmt):Pos:=match s with
 |.FunctionDef _ _ _ _ _ _ _ _ _ p=>p
 |_=>⟨0,0,0,0⟩
noncomputable def ur (st:Stmt) (q:Str) (g:Addr) (md cd:Value):FuncData:={ name:=xU st,qualname:=q,params:=Fb st,body:=.stmts (GP st),scope:=Fc st,globals:=g,closure:=[],defaults:=.none,kwdefaults:=.none,doc:=.none,pyModule:=md,annotations:=none,code:=cd,closureTuple:=.none,builtins:=0 }
noncomputable def kh(P:Params)(x:Str):Int:=PySem.PyData.keyHash P x
noncomputable def Fd(vs:List Value):Obj:=⟨.type "tuple",none,.seq vs.toArray 0,#[]⟩
noncomputable def uu(vs:List Value):Obj:=⟨.none,none,.fields vs.toArray,#[]⟩
noncomputable def Hn:Nat->List Str->List Value
 |_,[]=>[]
 |t,x::r=>.str x t::Hn (t+1) r
noncomputable def Fe(st:Stmt)(a t:Nat)(v1 v2:Value)(tm u:Nat):Obj:=⟨.type "code",none,.fields #[.str (xU st) t,.str (xU st) (t+1),.str "/claim/cut.py" (t+2),.int (Hm st).line 0,.int (Fb st).args.length 0,.int 0 0,.int 0 0,.int 3 0,.ref a,.bool true,.int 181 0,.ref (a+1),.none,v1,v2,.ref tm,.int u 0,.int (Hm st).line 0,.str "/claim/cut.py" (u+1)],#[]⟩
noncomputable def K2(st:Stmt)(md:Value)(cd:Nat):Obj:=⟨.type "function",none,.func (ur st (xU st) 3 md (.ref cd)),#[]⟩
noncomputable def K3(st:Stmt):Obj:=⟨.none,none,.func (ur st (xU st) 0 .none .none),#[]⟩
noncomputable def dg(st:Stmt)(a t:Nat)(vs:List Str)(md:Value):List Obj:=[Fd [],uu [],Fd (Hn (t+3) vs),Fd [],K3 st,Fe st a t (.ref (a+2)) (.ref (a+3)) (a+4) (t+3+vs.length),K2 st md (a+5)]
noncomputable def CM(st:Stmt)(a t:Nat)(md:Value):List Obj:=[Fd [],uu [],K3 st,Fe st a t .none .none (a+2) (t+3),K2 st md (a+3)]
noncomputable def nu (P:Params) (nm:Value) (es:List DictEntry) (n:Nat):Obj:=⟨.type "dict",none,.dict (([⟨kh P "__name__",.str "__name__" 165,nm⟩,⟨kh P "__doc__",.str "__doc__" 166,.none⟩,⟨kh P "__package__",.str "__package__" 167,.none⟩,⟨kh P "__loader__",.str "__loader__" 168,.builtin "__main__.__loader__#opaque"⟩,⟨kh P "__spec__",.str "__spec__" 169,.none⟩,⟨kh P "__annotations__",.str "__annotations__" 170,.ref 6⟩,⟨kh P "__builtins__",.str "__builtins__" 171,.ref 4⟩,⟨kh P "__file__",.str "__file__" 173,.str "/claim/cut.py" 172⟩,⟨kh P "__cached__",.str "__cached__" 174,.none⟩]:List DictEntry)++es).toArray n,#[]⟩
noncomputable def Ip:Obj:=⟨.type "code",none,.fields #[.str "<module>" 182,.str "<module>" 183,.str "/claim/cut.py" 184,.int 1 0,.int 0 0,.int 0 0,.int 0 0,.int 0 0,.ref 11,.bool false,.int 181 0,.ref 12,.none,.none,.none,.none,.int 185 0,.int 1 0,.str "/claim/cut.py" 186],#[]⟩
noncomputable def Iq:Obj:=⟨.type "frame",none,.plain,#[some (.ref 13),some (.ref 3),some (.ref 3),none,some (.str "__main__" 164),none,some (.ref 0)]⟩
noncomputable def CN(P:Params):List Obj:=[boot_o_0 P,boot_o_1 P,boot_o_2 P,boot_o_3 P,boot_o_4 P,boot_o_5 P,boot_o_6 P,boot_o_7 P,boot_o_8 P,boot_o_9 P,boot_o_10 P,Fd [],uu [],Ip,Iq]
noncomputable def jV:Life:=⟨[],[],[],0,[],[],false,#[],[],0,false,false,false,0,[2000,10,10],false,0,true,[],[],0,false⟩
noncomputable def GQ(l:List (Nat×Obj))(b:Nat):Option Obj:=@List.rec (Nat×Obj) (λ_=>Option Obj) none (λx _ ih=>bif Nat.beq x.1 b then some x.2 else ih) l
noncomputable def Ff(P:Params)(ob:Params->Nat->Obj)(b:Nat):Obj:=bif b.blt 15 then(CN P).getD b default else ob P b
noncomputable def Ir(l:List Nat)(b:Nat):Bool:=@List.rec Nat (λ_=>Bool) false (λx _ ih=>@Bool.rec (λ_=>Bool) ih true (Nat.beq x b)) l
noncomputable def xV(ks:List Nat)(P:Params)(ov:List (Nat×Obj))(ob:Params->Nat->Obj)(b j:Nat):Obj:=@Bool.rec (λ_=>Obj) (Ff P ob b) ((GQ ov b).getD default) (Ir ks b)
noncomputable def L0(n:Nat)(f:Nat->Obj)(a b j:Nat):BT:=.nil
noncomputable def L1(n:Nat)(f:Nat->Obj)(a b j:Nat):BT:=@Bool.rec (λ_=>BT) .nil (.node (f b) (L0 n f (2*a) (a+b) j) (L0 n f (2*a) (2*a+b) j)) (b.blt n)
noncomputable def L2(n:Nat)(f:Nat->Obj)(a b j:Nat):BT:=@Bool.rec (λ_=>BT) .nil (.node (f b) (L1 n f (2*a) (a+b) j) (L1 n f (2*a) (2*a+b) j)) (b.blt n)
noncomputable def L3(n:Nat)(f:Nat->Obj)(a b j:Nat):BT:=@Bool.rec (λ_=>BT) .nil (.node (f b) (L2 n f (2*a) (a+b) j) (L2 n f (2*a) (2*a+b) j)) (b.blt n)
noncomputable def L4(n:Nat)(f:Nat->Obj)(a b j:Nat):BT:=@Bool.rec (λ_=>BT) .nil (.node (f b) (L3 n f (2*a) (a+b) j) (L3 n f (2*a) (2*a+b) j)) (b.blt n)
noncomputable def L5(n:Nat)(f:Nat->Obj)(a b j:Nat):BT:=@Bool.rec (λ_=>BT) .nil (.node (f b) (L4 n f (2*a) (a+b) j) (L4 n f (2*a) (2*a+b) j)) (b.blt n)
noncomputable def L6(n:Nat)(f:Nat->Obj)(a b j:Nat):BT:=@Bool.rec (λ_=>BT) .nil (.node (f b) (L5 n f (2*a) (a+b) j) (L5 n f (2*a) (2*a+b) j)) (b.blt n)
noncomputable def L7(n:Nat)(f:Nat->Obj)(a b j:Nat):BT:=@Bool.rec (λ_=>BT) .nil (.node (f b) (L6 n f (2*a) (a+b) j) (L6 n f (2*a) (2*a+b) j)) (b.blt n)
noncomputable def L8(n:Nat)(f:Nat->Obj)(a b j:Nat):BT:=@Bool.rec (λ_=>BT) .nil (.node (f b) (L7 n f (2*a) (a+b) j) (L7 n f (2*a) (2*a+b) j)) (b.blt n)
noncomputable def L9(n:Nat)(f:Nat->Obj)(a b j:Nat):BT:=@Bool.rec (λ_=>BT) .nil (.node (f b) (L8 n f (2*a) (a+b) j) (L8 n f (2*a) (2*a+b) j)) (b.blt n)
noncomputable def K4(n:Nat)(f:Nat->Obj)(a b j:Nat):BT:=@Bool.rec (λ_=>BT) .nil (.node (f b) (L9 n f (2*a) (a+b) j) (L9 n f (2*a) (2*a+b) j)) (b.blt n)
noncomputable def K5(n:Nat)(f:Nat->Obj)(a b j:Nat):BT:=@Bool.rec (λ_=>BT) .nil (.node (f b) (K4 n f (2*a) (a+b) j) (K4 n f (2*a) (2*a+b) j)) (b.blt n)
noncomputable def K6(n:Nat)(f:Nat->Obj)(a b j:Nat):BT:=@Bool.rec (λ_=>BT) .nil (.node (f b) (K5 n f (2*a) (a+b) j) (K5 n f (2*a) (2*a+b) j)) (b.blt n)
theorem iW{p:Program}{w:World}{m:Nat}{ann:Option Value}{b n:Nat}{s:SharedT}{t:Thread}{r:Option (Flow×SharedT×Code×Pos)}(h:Fast.tw10110043849684766642 Fast.tw14364793385576792824 p w m ann b n s t=r):segRunT treeTable p w m ann b n s t=r:=by rw[Fast.te10110043849684766642,N0];exact h
theorem Fg{p:Program}{w:World}{m:Nat}{ann:Option Value}{n:Nat}{s:Shared}{t:Thread}{r:Option Shared}(h:Fast.tw14082659384304107361 Fast.tw14364793385576792824 p w m ann n s t=r):topRun treeTable p w m ann n s t=r:=by rw[Fast.te14082659384304107361,N0];exact h
theorem Fh:denote treeTable=Fast.tw11892475500146522536 Fast.tw14364793385576792824:=by rw[<- Fast.te11892475500146522536,<- N0]
theorem GR{p:Program}{w:World}{m:Nat}{ann:Option Value}{n:Nat}{s:Shared}{t:Thread}{r:Option (Shared×Thread)}(h:Fast.tw15667345088766844465 Fast.tw14364793385576792824 p w m ann n s t=r):topGo treeTable p w m ann n s t=r:=by rw[Fast.te15667345088766844465,N0];exact h
theorem CO{b b':List Stmt}(e:b=b'){tb:String->Option Builtin}{p:Program}{w:World}{m:Nat}{ann:Option Value}{n:Nat}{s:Shared}{env:Env}{c:Code}{ps:Pos}{B:List Frame}{r:Option Shared}(h:topRun tb p w m ann n s (restOf b' env c ps B)=r):topRun tb p w m ann n s (restOf b env c ps B)=r:=by rw[e];exact h
noncomputable def f1(P:Params):List Obj:=[(Obj.mk (.type "tuple") none (.seq #[(.type "ValueError")] 0) #[]),
 (Obj.mk (.type "builtin_function_or_method") none (.fields #[(.builtin "type.__prepare__"),(.type "type")]) #[]),
 (Obj.mk (.type "dict") none (.dict #[(DictEntry.mk (kh P "__module__") (.str "__module__" 196) (.str "ringloads.errors" 187)),(DictEntry.mk (kh P "__qualname__") (.str "__qualname__" 198) (.str "LoadError" 197)),(DictEntry.mk (kh P "__firstlineno__") (.str "__firstlineno__" 200) (.int 2 199)),(DictEntry.mk (kh P "__init__") (.str "__init__" 208) (.ref 28)),(DictEntry.mk (kh P "__static_attributes__") (.str "__static_attributes__" 209) (.ref 29))] 5) #[]),
 (Obj.mk (.type "tuple") none (.seq #[] 0) #[]),
 (Obj.mk .none none (.fields #[(.int 4 0),(.int 4 0),(.ref 27)]) #[]),
 (Obj.mk (.type "code") none (.fields #[(.str "LoadError" 191),(.str "LoadError" 192),(.str "/claim/cut.py" 193),(.int 2 0),(.int 0 0),(.int 0 0),(.int 0 0),(.int 0 0),(.ref 18),(.bool false),(.int 181 0),(.ref 19),.none,.none,.none,.none,(.int 194 0),(.int 2 0),(.str "/claim/cut.py" 195)]) #[]),
 (Obj.mk (.type "frame") none .plain #[(some (.ref 20)),(some (.ref 3)),(some (.ref 17)),none,(some (.str "ringloads.errors" 187)),none,(some (.ref 0))]),
 (Obj.mk (.type "tuple") none (.seq #[] 0) #[]),
 (Obj.mk .none none (.fields #[]) #[]),
 (Obj.mk (.type "tuple") none (.seq #[(.str "self" 204),(.str "text" 205)] 0) #[]),
 (Obj.mk (.type "tuple") none (.seq #[] 0) #[]),
 (Obj.mk .none none (.func (ur (inCls (top 1) 0) "LoadError.__init__" 0 .none .none)) #[]),
 (Obj.mk (.type "code") none (.fields #[(.str "__init__" 201),(.str "LoadError.__init__" 202),(.str "/claim/cut.py" 203),(.int 4 0),(.int 2 0),(.int 0 0),(.int 0 0),(.int 3 0),(.ref 22),(.bool true),(.int 181 0),(.ref 23),.none,(.ref 24),(.ref 25),(.ref 26),(.int 206 0),(.int 4 0),(.str "/claim/cut.py" 207)]) #[]),
 (Obj.mk (.type "function") none (.func (ur (inCls (top 1) 0) "LoadError.__init__" 3 (.str "ringloads.errors" 187) (.ref 27))) #[]),
 (Obj.mk (.type "tuple") none (.seq #[] 0) #[]),
 (Obj.mk (.type "dict") none (.dict #[(DictEntry.mk (kh P "__module__") (.str "__module__" 196) (.str "ringloads.errors" 187)),(DictEntry.mk (kh P "__firstlineno__") (.str "__firstlineno__" 200) (.int 2 199)),(DictEntry.mk (kh P "__init__") (.str "__init__" 208) (.ref 28)),(DictEntry.mk (kh P "__static_attributes__") (.str "__static_attributes__" 209) (.ref 29)),(DictEntry.mk (kh P "__weakref__") (.str "__weakref__" 211) (.ref 32)),(DictEntry.mk (kh P "__doc__") (.str "__doc__" 212) .none)] 3) #[]),
 (Obj.mk (.type "type") none (.cls (PySem.ClassData.mk "LoadError" [(.type "ValueError")] [(.ref 31),(.type "ValueError"),(.type "Exception"),(.type "BaseException"),(.type "object")] 30 "LoadError" true [] [(.ref 44),(.ref 63),(.ref 82),(.ref 94),(.ref 113),(.ref 132)] false none false)) #[(some (.ref 15)),none,(some (.str "LoadError" 189)),(some (.str "LoadError" 197)),(some (.builtin "ValueError.__new__")),(some (.bool true))]),
 (Obj.mk (.type "getset_descriptor") none (.fields #[(.str "__weakref__" 210),(.ref 31),(.builtin "ExceptionGroup.__weakref__"),.none]) #[]),
 (Obj.mk (.type "super") none (.fields #[(.ref 31),(.ref 31),(.ref 31)]) #[]),
 (Obj.mk (.type "builtin_function_or_method") none (.fields #[(.builtin "object.__init_subclass__"),(.ref 31)]) #[])]
noncomputable def f2(P:Params):List Obj:=[(Obj.mk (.type "tuple") none (.seq #[(.ref 31)] 0) #[]),
 (Obj.mk (.type "builtin_function_or_method") none (.fields #[(.builtin "type.__prepare__"),(.type "type")]) #[]),
 (Obj.mk (.type "dict") none (.dict #[(DictEntry.mk (kh P "__module__") (.str "__module__" 222) (.str "ringloads.errors" 187)),(DictEntry.mk (kh P "__qualname__") (.str "__qualname__" 224) (.str "NoNumber" 223)),(DictEntry.mk (kh P "__firstlineno__") (.str "__firstlineno__" 226) (.int 6 225)),(DictEntry.mk (kh P "__static_attributes__") (.str "__static_attributes__" 227) (.ref 42))] 4) #[]),
 (Obj.mk (.type "tuple") none (.seq #[] 0) #[]),
 (Obj.mk .none none (.fields #[]) #[]),
 (Obj.mk (.type "code") none (.fields #[(.str "NoNumber" 217),(.str "NoNumber" 218),(.str "/claim/cut.py" 219),(.int 6 0),(.int 0 0),(.int 0 0),(.int 0 0),(.int 0 0),(.ref 38),(.bool false),(.int 181 0),(.ref 39),.none,.none,.none,.none,(.int 220 0),(.int 6 0),(.str "/claim/cut.py" 221)]) #[]),
 (Obj.mk (.type "frame") none .plain #[(some (.ref 40)),(some (.ref 3)),(some (.ref 37)),none,(some (.str "ringloads.errors" 187)),none,(some (.ref 0))]),
 (Obj.mk (.type "tuple") none (.seq #[] 0) #[]),
 (Obj.mk (.type "dict") none (.dict #[(DictEntry.mk (kh P "__module__") (.str "__module__" 222) (.str "ringloads.errors" 187)),(DictEntry.mk (kh P "__firstlineno__") (.str "__firstlineno__" 226) (.int 6 225)),(DictEntry.mk (kh P "__static_attributes__") (.str "__static_attributes__" 227) (.ref 42)),(DictEntry.mk (kh P "__doc__") (.str "__doc__" 228) .none)] 2) #[]),
 (Obj.mk (.type "type") none (.cls (PySem.ClassData.mk "NoNumber" [(.ref 31)] [(.ref 44),(.ref 31),(.type "ValueError"),(.type "Exception"),(.type "BaseException"),(.type "object")] 43 "NoNumber" true [] [] false none false)) #[(some (.ref 35)),none,(some (.str "NoNumber" 215)),(some (.str "NoNumber" 223)),(some (.builtin "ValueError.__new__")),(some (.bool true))]),
 (Obj.mk (.type "super") none (.fields #[(.ref 44),(.ref 44),(.ref 44)]) #[]),
 (Obj.mk (.type "builtin_function_or_method") none (.fields #[(.builtin "object.__init_subclass__"),(.ref 44)]) #[])]
noncomputable def f3(P:Params):List Obj:=[(Obj.mk (.type "tuple") none (.seq #[(.ref 31)] 0) #[]),
 (Obj.mk (.type "builtin_function_or_method") none (.fields #[(.builtin "type.__prepare__"),(.type "type")]) #[]),
 (Obj.mk (.type "dict") none (.dict #[(DictEntry.mk (kh P "__module__") (.str "__module__" 238) (.str "ringloads.errors" 187)),(DictEntry.mk (kh P "__qualname__") (.str "__qualname__" 240) (.str "NoRing" 239)),(DictEntry.mk (kh P "__firstlineno__") (.str "__firstlineno__" 242) (.int 8 241)),(DictEntry.mk (kh P "__init__") (.str "__init__" 251) (.ref 60)),(DictEntry.mk (kh P "__static_attributes__") (.str "__static_attributes__" 254) (.ref 61))] 5) #[]),
 (Obj.mk (.type "tuple") none (.seq #[] 0) #[]),
 (Obj.mk .none none (.fields #[(.int 10 0),(.int 4 0),(.ref 59)]) #[]),
 (Obj.mk (.type "code") none (.fields #[(.str "NoRing" 233),(.str "NoRing" 234),(.str "/claim/cut.py" 235),(.int 8 0),(.int 0 0),(.int 0 0),(.int 0 0),(.int 0 0),(.ref 50),(.bool false),(.int 181 0),(.ref 51),.none,.none,.none,.none,(.int 236 0),(.int 8 0),(.str "/claim/cut.py" 237)]) #[]),
 (Obj.mk (.type "frame") none .plain #[(some (.ref 52)),(some (.ref 3)),(some (.ref 49)),none,(some (.str "ringloads.errors" 187)),none,(some (.ref 0))]),
 (Obj.mk (.type "tuple") none (.seq #[] 0) #[]),
 (Obj.mk .none none (.fields #[]) #[]),
 (Obj.mk (.type "tuple") none (.seq #[(.str "self" 246),(.str "part" 247),(.str "number" 248)] 0) #[]),
 (Obj.mk (.type "tuple") none (.seq #[] 0) #[]),
 (Obj.mk .none none (.func (ur (inCls (top 3) 0) "NoRing.__init__" 0 .none .none)) #[]),
 (Obj.mk (.type "code") none (.fields #[(.str "__init__" 243),(.str "NoRing.__init__" 244),(.str "/claim/cut.py" 245),(.int 10 0),(.int 3 0),(.int 0 0),(.int 0 0),(.int 3 0),(.ref 54),(.bool true),(.int 181 0),(.ref 55),.none,(.ref 56),(.ref 57),(.ref 58),(.int 249 0),(.int 10 0),(.str "/claim/cut.py" 250)]) #[]),
 (Obj.mk (.type "function") none (.func (ur (inCls (top 3) 0) "NoRing.__init__" 3 (.str "ringloads.errors" 187) (.ref 59))) #[]),
 (Obj.mk (.type "tuple") none (.seq #[(.str "number" 252),(.str "part" 253)] 0) #[]),
 (Obj.mk (.type "dict") none (.dict #[(DictEntry.mk (kh P "__module__") (.str "__module__" 238) (.str "ringloads.errors" 187)),(DictEntry.mk (kh P "__firstlineno__") (.str "__firstlineno__" 242) (.int 8 241)),(DictEntry.mk (kh P "__init__") (.str "__init__" 251) (.ref 60)),(DictEntry.mk (kh P "__static_attributes__") (.str "__static_attributes__" 254) (.ref 61)),(DictEntry.mk (kh P "__doc__") (.str "__doc__" 255) .none)] 2) #[]),
 (Obj.mk (.type "type") none (.cls (PySem.ClassData.mk "NoRing" [(.ref 31)] [(.ref 63),(.ref 31),(.type "ValueError"),(.type "Exception"),(.type "BaseException"),(.type "object")] 62 "NoRing" true [] [] false none false)) #[(some (.ref 47)),none,(some (.str "NoRing" 231)),(some (.str "NoRing" 239)),(some (.builtin "ValueError.__new__")),(some (.bool true))]),
 (Obj.mk (.type "super") none (.fields #[(.ref 63),(.ref 63),(.ref 63)]) #[]),
 (Obj.mk (.type "builtin_function_or_method") none (.fields #[(.builtin "object.__init_subclass__"),(.ref 63)]) #[])]
noncomputable def f4(P:Params):List Obj:=[(Obj.mk (.type "tuple") none (.seq #[(.ref 31)] 0) #[]),
 (Obj.mk (.type "builtin_function_or_method") none (.fields #[(.builtin "type.__prepare__"),(.type "type")]) #[]),
 (Obj.mk (.type "dict") none (.dict #[(DictEntry.mk (kh P "__module__") (.str "__module__" 265) (.str "ringloads.errors" 187)),(DictEntry.mk (kh P "__qualname__") (.str "__qualname__" 267) (.str "NoSlide" 266)),(DictEntry.mk (kh P "__firstlineno__") (.str "__firstlineno__" 269) (.int 14 268)),(DictEntry.mk (kh P "__init__") (.str "__init__" 277) (.ref 79)),(DictEntry.mk (kh P "__static_attributes__") (.str "__static_attributes__" 279) (.ref 80))] 5) #[]),
 (Obj.mk (.type "tuple") none (.seq #[] 0) #[]),
 (Obj.mk .none none (.fields #[(.int 16 0),(.int 4 0),(.ref 78)]) #[]),
 (Obj.mk (.type "code") none (.fields #[(.str "NoSlide" 260),(.str "NoSlide" 261),(.str "/claim/cut.py" 262),(.int 14 0),(.int 0 0),(.int 0 0),(.int 0 0),(.int 0 0),(.ref 69),(.bool false),(.int 181 0),(.ref 70),.none,.none,.none,.none,(.int 263 0),(.int 14 0),(.str "/claim/cut.py" 264)]) #[]),
 (Obj.mk (.type "frame") none .plain #[(some (.ref 71)),(some (.ref 3)),(some (.ref 68)),none,(some (.str "ringloads.errors" 187)),none,(some (.ref 0))]),
 (Obj.mk (.type "tuple") none (.seq #[] 0) #[]),
 (Obj.mk .none none (.fields #[]) #[]),
 (Obj.mk (.type "tuple") none (.seq #[(.str "self" 273),(.str "number" 274)] 0) #[]),
 (Obj.mk (.type "tuple") none (.seq #[] 0) #[]),
 (Obj.mk .none none (.func (ur (inCls (top 4) 0) "NoSlide.__init__" 0 .none .none)) #[]),
 (Obj.mk (.type "code") none (.fields #[(.str "__init__" 270),(.str "NoSlide.__init__" 271),(.str "/claim/cut.py" 272),(.int 16 0),(.int 2 0),(.int 0 0),(.int 0 0),(.int 3 0),(.ref 73),(.bool true),(.int 181 0),(.ref 74),.none,(.ref 75),(.ref 76),(.ref 77),(.int 275 0),(.int 16 0),(.str "/claim/cut.py" 276)]) #[]),
 (Obj.mk (.type "function") none (.func (ur (inCls (top 4) 0) "NoSlide.__init__" 3 (.str "ringloads.errors" 187) (.ref 78))) #[]),
 (Obj.mk (.type "tuple") none (.seq #[(.str "number" 278)] 0) #[]),
 (Obj.mk (.type "dict") none (.dict #[(DictEntry.mk (kh P "__module__") (.str "__module__" 265) (.str "ringloads.errors" 187)),(DictEntry.mk (kh P "__firstlineno__") (.str "__firstlineno__" 269) (.int 14 268)),(DictEntry.mk (kh P "__init__") (.str "__init__" 277) (.ref 79)),(DictEntry.mk (kh P "__static_attributes__") (.str "__static_attributes__" 279) (.ref 80)),(DictEntry.mk (kh P "__doc__") (.str "__doc__" 280) .none)] 2) #[]),
 (Obj.mk (.type "type") none (.cls (PySem.ClassData.mk "NoSlide" [(.ref 31)] [(.ref 82),(.ref 31),(.type "ValueError"),(.type "Exception"),(.type "BaseException"),(.type "object")] 81 "NoSlide" true [] [] false none false)) #[(some (.ref 66)),none,(some (.str "NoSlide" 258)),(some (.str "NoSlide" 266)),(some (.builtin "ValueError.__new__")),(some (.bool true))]),
 (Obj.mk (.type "super") none (.fields #[(.ref 82),(.ref 82),(.ref 82)]) #[]),
 (Obj.mk (.type "builtin_function_or_method") none (.fields #[(.builtin "object.__init_subclass__"),(.ref 82)]) #[])]
noncomputable def f5(P:Params):List Obj:=[(Obj.mk (.type "tuple") none (.seq #[(.ref 31)] 0) #[]),
 (Obj.mk (.type "builtin_function_or_method") none (.fields #[(.builtin "type.__prepare__"),(.type "type")]) #[]),
 (Obj.mk (.type "dict") none (.dict #[(DictEntry.mk (kh P "__module__") (.str "__module__" 290) (.str "ringloads.errors" 187)),(DictEntry.mk (kh P "__qualname__") (.str "__qualname__" 292) (.str "TooMany" 291)),(DictEntry.mk (kh P "__firstlineno__") (.str "__firstlineno__" 294) (.int 19 293)),(DictEntry.mk (kh P "__static_attributes__") (.str "__static_attributes__" 295) (.ref 92))] 4) #[]),
 (Obj.mk (.type "tuple") none (.seq #[] 0) #[]),
 (Obj.mk .none none (.fields #[]) #[]),
 (Obj.mk (.type "code") none (.fields #[(.str "TooMany" 285),(.str "TooMany" 286),(.str "/claim/cut.py" 287),(.int 19 0),(.int 0 0),(.int 0 0),(.int 0 0),(.int 0 0),(.ref 88),(.bool false),(.int 181 0),(.ref 89),.none,.none,.none,.none,(.int 288 0),(.int 19 0),(.str "/claim/cut.py" 289)]) #[]),
 (Obj.mk (.type "frame") none .plain #[(some (.ref 90)),(some (.ref 3)),(some (.ref 87)),none,(some (.str "ringloads.errors" 187)),none,(some (.ref 0))]),
 (Obj.mk (.type "tuple") none (.seq #[] 0) #[]),
 (Obj.mk (.type "dict") none (.dict #[(DictEntry.mk (kh P "__module__") (.str "__module__" 290) (.str "ringloads.errors" 187)),(DictEntry.mk (kh P "__firstlineno__") (.str "__firstlineno__" 294) (.int 19 293)),(DictEntry.mk (kh P "__static_attributes__") (.str "__static_attributes__" 295) (.ref 92)),(DictEntry.mk (kh P "__doc__") (.str "__doc__" 296) .none)] 2) #[]),
 (Obj.mk (.type "type") none (.cls (PySem.ClassData.mk "TooMany" [(.ref 31)] [(.ref 94),(.ref 31),(.type "ValueError"),(.type "Exception"),(.type "BaseException"),(.type "object")] 93 "TooMany" true [] [] false none false)) #[(some (.ref 85)),none,(some (.str "TooMany" 283)),(some (.str "TooMany" 291)),(some (.builtin "ValueError.__new__")),(some (.bool true))]),
 (Obj.mk (.type "super") none (.fields #[(.ref 94),(.ref 94),(.ref 94)]) #[]),
 (Obj.mk (.type "builtin_function_or_method") none (.fields #[(.builtin "object.__init_subclass__"),(.ref 94)]) #[])]
noncomputable def f6(P:Params):List Obj:=[(Obj.mk (.type "tuple") none (.seq #[(.ref 31)] 0) #[]),
 (Obj.mk (.type "builtin_function_or_method") none (.fields #[(.builtin "type.__prepare__"),(.type "type")]) #[]),
 (Obj.mk (.type "dict") none (.dict #[(DictEntry.mk (kh P "__module__") (.str "__module__" 306) (.str "ringloads.errors" 187)),(DictEntry.mk (kh P "__qualname__") (.str "__qualname__" 308) (.str "NoString" 307)),(DictEntry.mk (kh P "__firstlineno__") (.str "__firstlineno__" 310) (.int 21 309)),(DictEntry.mk (kh P "__init__") (.str "__init__" 318) (.ref 110)),(DictEntry.mk (kh P "__static_attributes__") (.str "__static_attributes__" 320) (.ref 111))] 5) #[]),
 (Obj.mk (.type "tuple") none (.seq #[] 0) #[]),
 (Obj.mk .none none (.fields #[(.int 23 0),(.int 4 0),(.ref 109)]) #[]),
 (Obj.mk (.type "code") none (.fields #[(.str "NoString" 301),(.str "NoString" 302),(.str "/claim/cut.py" 303),(.int 21 0),(.int 0 0),(.int 0 0),(.int 0 0),(.int 0 0),(.ref 100),(.bool false),(.int 181 0),(.ref 101),.none,.none,.none,.none,(.int 304 0),(.int 21 0),(.str "/claim/cut.py" 305)]) #[]),
 (Obj.mk (.type "frame") none .plain #[(some (.ref 102)),(some (.ref 3)),(some (.ref 99)),none,(some (.str "ringloads.errors" 187)),none,(some (.ref 0))]),
 (Obj.mk (.type "tuple") none (.seq #[] 0) #[]),
 (Obj.mk .none none (.fields #[]) #[]),
 (Obj.mk (.type "tuple") none (.seq #[(.str "self" 314),(.str "number" 315)] 0) #[]),
 (Obj.mk (.type "tuple") none (.seq #[] 0) #[]),
 (Obj.mk .none none (.func (ur (inCls (top 6) 0) "NoString.__init__" 0 .none .none)) #[]),
 (Obj.mk (.type "code") none (.fields #[(.str "__init__" 311),(.str "NoString.__init__" 312),(.str "/claim/cut.py" 313),(.int 23 0),(.int 2 0),(.int 0 0),(.int 0 0),(.int 3 0),(.ref 104),(.bool true),(.int 181 0),(.ref 105),.none,(.ref 106),(.ref 107),(.ref 108),(.int 316 0),(.int 23 0),(.str "/claim/cut.py" 317)]) #[]),
 (Obj.mk (.type "function") none (.func (ur (inCls (top 6) 0) "NoString.__init__" 3 (.str "ringloads.errors" 187) (.ref 109))) #[]),
 (Obj.mk (.type "tuple") none (.seq #[(.str "number" 319)] 0) #[]),
 (Obj.mk (.type "dict") none (.dict #[(DictEntry.mk (kh P "__module__") (.str "__module__" 306) (.str "ringloads.errors" 187)),(DictEntry.mk (kh P "__firstlineno__") (.str "__firstlineno__" 310) (.int 21 309)),(DictEntry.mk (kh P "__init__") (.str "__init__" 318) (.ref 110)),(DictEntry.mk (kh P "__static_attributes__") (.str "__static_attributes__" 320) (.ref 111)),(DictEntry.mk (kh P "__doc__") (.str "__doc__" 321) .none)] 2) #[]),
 (Obj.mk (.type "type") none (.cls (PySem.ClassData.mk "NoString" [(.ref 31)] [(.ref 113),(.ref 31),(.type "ValueError"),(.type "Exception"),(.type "BaseException"),(.type "object")] 112 "NoString" true [] [] false none false)) #[(some (.ref 97)),none,(some (.str "NoString" 299)),(some (.str "NoString" 307)),(some (.builtin "ValueError.__new__")),(some (.bool true))]),
 (Obj.mk (.type "super") none (.fields #[(.ref 113),(.ref 113),(.ref 113)]) #[]),
 (Obj.mk (.type "builtin_function_or_method") none (.fields #[(.builtin "object.__init_subclass__"),(.ref 113)]) #[])]
noncomputable def f7(P:Params):List Obj:=[(Obj.mk (.type "tuple") none (.seq #[(.ref 31)] 0) #[]),
 (Obj.mk (.type "builtin_function_or_method") none (.fields #[(.builtin "type.__prepare__"),(.type "type")]) #[]),
 (Obj.mk (.type "dict") none (.dict #[(DictEntry.mk (kh P "__module__") (.str "__module__" 331) (.str "ringloads.errors" 187)),(DictEntry.mk (kh P "__qualname__") (.str "__qualname__" 333) (.str "NoText" 332)),(DictEntry.mk (kh P "__firstlineno__") (.str "__firstlineno__" 335) (.int 26 334)),(DictEntry.mk (kh P "__init__") (.str "__init__" 343) (.ref 129)),(DictEntry.mk (kh P "__static_attributes__") (.str "__static_attributes__" 345) (.ref 130))] 5) #[]),
 (Obj.mk (.type "tuple") none (.seq #[] 0) #[]),
 (Obj.mk .none none (.fields #[(.int 28 0),(.int 4 0),(.ref 128)]) #[]),
 (Obj.mk (.type "code") none (.fields #[(.str "NoText" 326),(.str "NoText" 327),(.str "/claim/cut.py" 328),(.int 26 0),(.int 0 0),(.int 0 0),(.int 0 0),(.int 0 0),(.ref 119),(.bool false),(.int 181 0),(.ref 120),.none,.none,.none,.none,(.int 329 0),(.int 26 0),(.str "/claim/cut.py" 330)]) #[]),
 (Obj.mk (.type "frame") none .plain #[(some (.ref 121)),(some (.ref 3)),(some (.ref 118)),none,(some (.str "ringloads.errors" 187)),none,(some (.ref 0))]),
 (Obj.mk (.type "tuple") none (.seq #[] 0) #[]),
 (Obj.mk .none none (.fields #[]) #[]),
 (Obj.mk (.type "tuple") none (.seq #[(.str "self" 339),(.str "row" 340)] 0) #[]),
 (Obj.mk (.type "tuple") none (.seq #[] 0) #[]),
 (Obj.mk .none none (.func (ur (inCls (top 7) 0) "NoText.__init__" 0 .none .none)) #[]),
 (Obj.mk (.type "code") none (.fields #[(.str "__init__" 336),(.str "NoText.__init__" 337),(.str "/claim/cut.py" 338),(.int 28 0),(.int 2 0),(.int 0 0),(.int 0 0),(.int 3 0),(.ref 123),(.bool true),(.int 181 0),(.ref 124),.none,(.ref 125),(.ref 126),(.ref 127),(.int 341 0),(.int 28 0),(.str "/claim/cut.py" 342)]) #[]),
 (Obj.mk (.type "function") none (.func (ur (inCls (top 7) 0) "NoText.__init__" 3 (.str "ringloads.errors" 187) (.ref 128))) #[]),
 (Obj.mk (.type "tuple") none (.seq #[(.str "row" 344)] 0) #[]),
 (Obj.mk (.type "dict") none (.dict #[(DictEntry.mk (kh P "__module__") (.str "__module__" 331) (.str "ringloads.errors" 187)),(DictEntry.mk (kh P "__firstlineno__") (.str "__firstlineno__" 335) (.int 26 334)),(DictEntry.mk (kh P "__init__") (.str "__init__" 343) (.ref 129)),(DictEntry.mk (kh P "__static_attributes__") (.str "__static_attributes__" 345) (.ref 130)),(DictEntry.mk (kh P "__doc__") (.str "__doc__" 346) .none)] 2) #[]),
 (Obj.mk (.type "type") none (.cls (PySem.ClassData.mk "NoText" [(.ref 31)] [(.ref 132),(.ref 31),(.type "ValueError"),(.type "Exception"),(.type "BaseException"),(.type "object")] 131 "NoText" true [] [] false none false)) #[(some (.ref 116)),none,(some (.str "NoText" 324)),(some (.str "NoText" 332)),(some (.builtin "ValueError.__new__")),(some (.bool true))]),
 (Obj.mk (.type "super") none (.fields #[(.ref 132),(.ref 132),(.ref 132)]) #[]),
 (Obj.mk (.type "builtin_function_or_method") none (.fields #[(.builtin "object.__init_subclass__"),(.ref 132)]) #[])]
noncomputable def f9(P:Params):List Obj:=dg (top 9) 135 351 ["one","other","rest"] (.str "ringloads.divisors" 349)
noncomputable def K7(P:Params):List Obj:=dg (top 12) 142 364 ["thing"] (.str "ringloads.names" 360)
noncomputable def K8(P:Params):List Obj:=dg (top 13) 149 371 ["thing","many"] (.str "ringloads.names" 360)
noncomputable def K9(P:Params):List Obj:=dg (top 14) 156 379 ["thing"] (.str "ringloads.names" 360)
noncomputable def La(P:Params):List Obj:=dg (top 15) 163 386 ["thing"] (.str "ringloads.names" 360)
noncomputable def Ld(P:Params):List Obj:=CM (top 16) 170 393 (.str "ringloads.names" 360)
noncomputable def Lf(P:Params):List Obj:=dg (top 21) 175 407 ["thing"] (.str "ringloads.rings" 399)
noncomputable def Lg(P:Params):List Obj:=dg (top 22) 182 414 ["rooms","number","room"] (.str "ringloads.rings" 399)
noncomputable def Lh(P:Params):List Obj:=[(Obj.mk (.type "tuple") none (.seq #[] 0) #[]),
 (Obj.mk .none none (.fields #[]) #[]),
 (Obj.mk (.type "tuple") none (.seq #[(.str "asks" 426),(.str "places" 427)] 0) #[]),
 (Obj.mk (.type "tuple") none (.seq #[(.str "places" 428)] 0) #[]),
 (Obj.mk .none none (.func (ur (top 23) "look_at_asks" 0 .none .none)) #[]),
 (Obj.mk (.type "code") none (.fields #[(.str "look_at_asks" 423),(.str "look_at_asks" 424),(.str "/claim/cut.py" 425),(.int 67 0),(.int 2 0),(.int 0 0),(.int 0 0),(.int 3 0),(.ref 189),(.bool true),(.int 181 0),(.ref 190),.none,(.ref 191),(.ref 192),(.ref 193),(.int 429 0),(.int 67 0),(.str "/claim/cut.py" 430)]) #[]),
 (Obj.mk (.type "function") none (.func (ur (top 23) "look_at_asks" 3 (.str "ringloads.rings" 399) (.ref 194))) #[])]
noncomputable def Li(P:Params):List Obj:=dg (top 24) 196 432 ["asks","is_end","taken","number","ask"] (.str "ringloads.rings" 399)
noncomputable def Lj(P:Params):List Obj:=dg (top 25) 203 443 ["thing","is_end"] (.str "ringloads.rings" 399)
noncomputable def Lk(P:Params):List Obj:=dg (top 27) 210 453 ["_law_script","_law_k","_law_cell"] (.str "law_ringloads_k06_rings_refused" 451)
noncomputable def Ll(P:Params):List Obj:=dg (top 28) 217 462 ["_law_state","_law_many","_law_digit","_law_drawn","_law_turn"] (.str "law_ringloads_k06_rings_refused" 451)
noncomputable def Ln(P:Params):List Obj:=dg (top 29) 224 473 ["_law_top","_law_bottom","_law_one","_law_share"] (.str "law_ringloads_k06_rings_refused" 451)
noncomputable def Lo(P:Params):List Obj:=dg (top 30) 231 483 ["_law_state","_law_least","_law_kind","_law_bottom","_law_top"] (.str "law_ringloads_k06_rings_refused" 451)
noncomputable def Lp(P:Params):List Obj:=CM (top 31) 238 494 (.str "law_ringloads_k06_rings_refused" 451)
noncomputable def Lq(P:Params):List Obj:=dg (top 32) 243 500 ["_law_state","_law_ties","_law_kind","_law_alike","_law_one","_law_rooms_here","_law_more"] (.str "law_ringloads_k06_rings_refused" 451)
noncomputable def Lr(P:Params):List Obj:=dg (top 33) 250 513 ["_law_state","_law_shape","_law_places","_law_k","_law_one","_law_other"] (.str "law_ringloads_k06_rings_refused" 451)
noncomputable def Ls(P:Params):List Obj:=dg (top 34) 257 525 ["_law_script","_law_at","_law_most","_law_count","_law_state","_law_places","_law_many","_law_kinds","_law_shape","_law_names_here","_law_rooms_here","_law_asks","_law_k","_law_one","_law_other"] (.str "law_ringloads_k06_rings_refused" 451)
noncomputable def Lu(P:Params):List Obj:=dg (top 35) 264 546 ["_law_ring_here"] (.str "law_ringloads_k06_rings_refused" 451)
noncomputable def Lv(P:Params):List Obj:=dg (top 36) 271 553 ["_law_state","_law_row"] (.str "law_ringloads_k06_rings_refused" 451)
noncomputable def Lw(P:Params):List Obj:=dg (top 37) 278 561 ["_law_state","_law_some"] (.str "law_ringloads_k06_rings_refused" 451)
noncomputable def Lx(P:Params):List Obj:=dg (top 38) 285 569 ["_law_state"] (.str "law_ringloads_k06_rings_refused" 451)
noncomputable def Ly(P:Params):List Obj:=dg (top 39) 292 576 ["_law_state","_law_letters","_law_letter","_law_some"] (.str "law_ringloads_k06_rings_refused" 451)
noncomputable def Lz(P:Params):List Obj:=dg (top 40) 299 586 ["_law_state","_law_places","_law_some"] (.str "law_ringloads_k06_rings_refused" 451)
noncomputable def LA(P:Params):List Obj:=dg (top 41) 306 595 ["_law_state","_law_ring_here","_law_at","_law_places","_law_name","_law_one","_law_other","_law_size","_law_way","_law_whole","_law_some"] (.str "law_ringloads_k06_rings_refused" 451)
noncomputable def LC(P:Params):List Obj:=CM (top 42) 313 612 (.str "law_ringloads_k06_rings_refused" 451)
noncomputable def LD(P:Params):List Obj:=dg (top 43) 318 618 ["_law_thing","_law_part","_law_number","_law_error","e"] (.str "law_ringloads_k06_rings_refused" 451)
noncomputable def LF(P:Params):List Obj:=dg (top 44) 325 629 ["_law_state","_law_ring_here","_law_rooms_here","_law_asks","_law_some"] (.str "law_ringloads_k06_rings_refused" 451)
noncomputable def LG(P:Params):List Obj:=dg (top 45) 332 640 ["_law_script","_law_ring_here","_law_at","_law_state","_law_part","_law_row","_law_number","_law_bent_here","_law_thing","_law_kept"] (.str "law_ringloads_k06_rings_refused" 451)
noncomputable def Iu(P:Params)(b:Nat):Obj:=(bif b.blt 85 then(bif b.blt 47 then(bif b.blt 35 then(f1 P).getD (b-15) default else(f2 P).getD (b-35) default)else(bif b.blt 66 then(f3 P).getD (b-47) default else(f4 P).getD (b-66) default))else(bif b.blt 116 then(bif b.blt 97 then(f5 P).getD (b-85) default else(f6 P).getD (b-97) default)else(bif b.blt 135 then(f7 P).getD (b-116) default else(bif b.blt 142 then(f9 P).getD (b-135) default else(K7 P).getD (b-142) default))))
noncomputable def Iv(P:Params)(b:Nat):Obj:=(bif b.blt 175 then(bif b.blt 163 then(bif b.blt 156 then(K8 P).getD (b-149) default else(K9 P).getD (b-156) default)else(bif b.blt 170 then(La P).getD (b-163) default else(Ld P).getD (b-170) default))else(bif b.blt 189 then(bif b.blt 182 then(Lf P).getD (b-175) default else(Lg P).getD (b-182) default)else(bif b.blt 196 then(Lh P).getD (b-189) default else(bif b.blt 203 then(Li P).getD (b-196) default else(Lj P).getD (b-203) default))))
noncomputable def LH(P:Params)(b:Nat):Obj:=bif b.blt 149 then Iu P b else Iv P b
noncomputable def Iw(P:Params)(b:Nat):Obj:=(bif b.blt 238 then(bif b.blt 224 then(bif b.blt 217 then(Lk P).getD (b-210) default else(Ll P).getD (b-217) default)else(bif b.blt 231 then(Ln P).getD (b-224) default else(Lo P).getD (b-231) default))else(bif b.blt 250 then(bif b.blt 243 then(Lp P).getD (b-238) default else(Lq P).getD (b-243) default)else(bif b.blt 257 then(Lr P).getD (b-250) default else(bif b.blt 264 then(Ls P).getD (b-257) default else(Lu P).getD (b-264) default))))
noncomputable def Iy(P:Params)(b:Nat):Obj:=(bif b.blt 306 then(bif b.blt 285 then(bif b.blt 278 then(Lv P).getD (b-271) default else(Lw P).getD (b-278) default)else(bif b.blt 292 then(Lx P).getD (b-285) default else(bif b.blt 299 then(Ly P).getD (b-292) default else(Lz P).getD (b-299) default)))else(bif b.blt 318 then(bif b.blt 313 then(LA P).getD (b-306) default else(LC P).getD (b-313) default)else(bif b.blt 325 then(LD P).getD (b-318) default else(bif b.blt 332 then(LF P).getD (b-325) default else(LG P).getD (b-332) default))))
noncomputable def LJ(P:Params)(b:Nat):Obj:=bif b.blt 271 then Iw P b else Iy P b
noncomputable def ob(P:Params)(b:Nat):Obj:=bif b.blt 210 then LH P b else LJ P b
noncomputable def yl(P:Params):List DictEntry:=[(DictEntry.mk (kh P "LoadError") (.str "LoadError" 214) (.ref 31)),
 (DictEntry.mk (kh P "NoNumber") (.str "NoNumber" 230) (.ref 44)),
 (DictEntry.mk (kh P "NoRing") (.str "NoRing" 257) (.ref 63)),
 (DictEntry.mk (kh P "NoSlide") (.str "NoSlide" 282) (.ref 82)),
 (DictEntry.mk (kh P "TooMany") (.str "TooMany" 298) (.ref 94)),
 (DictEntry.mk (kh P "NoString") (.str "NoString" 323) (.ref 113)),
 (DictEntry.mk (kh P "NoText") (.str "NoText" 348) (.ref 132)),
 (DictEntry.mk (kh P "greatest_shared") (.str "greatest_shared" 359) (.ref 141)),
 (DictEntry.mk (kh P "LONGEST_NAME") (.str "LONGEST_NAME" 363) (.int 8 362)),
 (DictEntry.mk (kh P "is_whole") (.str "is_whole" 370) (.ref 148)),
 (DictEntry.mk (kh P "is_number_below") (.str "is_number_below" 378) (.ref 155)),
 (DictEntry.mk (kh P "are_two_wholes") (.str "are_two_wholes" 385) (.ref 162)),
 (DictEntry.mk (kh P "is_ratio") (.str "is_ratio" 392) (.ref 169)),
 (DictEntry.mk (kh P "is_name") (.str "is_name" 398) (.ref 174)),
 (DictEntry.mk (kh P "FEWEST_TIES") (.str "FEWEST_TIES" 402) (.int 2 401)),
 (DictEntry.mk (kh P "MOST_TIES") (.str "MOST_TIES" 404) (.int 12 403)),
 (DictEntry.mk (kh P "MOST_ASKS") (.str "MOST_ASKS" 406) (.int 20 405)),
 (DictEntry.mk (kh P "look_at_ring") (.str "look_at_ring" 413) (.ref 181)),
 (DictEntry.mk (kh P "look_at_rooms") (.str "look_at_rooms" 422) (.ref 188)),
 (DictEntry.mk (kh P "look_at_asks") (.str "look_at_asks" 431) (.ref 195)),
 (DictEntry.mk (kh P "look_at_each_ask") (.str "look_at_each_ask" 442) (.ref 202)),
 (DictEntry.mk (kh P "is_ask") (.str "is_ask" 450) (.ref 209)),
 (DictEntry.mk (kh P "_law_begun") (.str "_law_begun" 461) (.ref 216)),
 (DictEntry.mk (kh P "_law_take") (.str "_law_take" 472) (.ref 223)),
 (DictEntry.mk (kh P "_law_low") (.str "_law_low" 482) (.ref 230)),
 (DictEntry.mk (kh P "_law_amount") (.str "_law_amount" 493) (.ref 237)),
 (DictEntry.mk (kh P "_law_names") (.str "_law_names" 499) (.ref 242)),
 (DictEntry.mk (kh P "_law_rooms") (.str "_law_rooms" 512) (.ref 249)),
 (DictEntry.mk (kh P "_law_ends") (.str "_law_ends" 524) (.ref 256)),
 (DictEntry.mk (kh P "_law_ring") (.str "_law_ring" 545) (.ref 263)),
 (DictEntry.mk (kh P "_law_copy") (.str "_law_copy" 552) (.ref 270)),
 (DictEntry.mk (kh P "_law_no_list") (.str "_law_no_list" 560) (.ref 277)),
 (DictEntry.mk (kh P "_law_odd_ratio") (.str "_law_odd_ratio" 568) (.ref 284)),
 (DictEntry.mk (kh P "_law_odd_room") (.str "_law_odd_room" 575) (.ref 291)),
 (DictEntry.mk (kh P "_law_odd_name") (.str "_law_odd_name" 585) (.ref 298)),
 (DictEntry.mk (kh P "_law_odd_place") (.str "_law_odd_place" 594) (.ref 305)),
 (DictEntry.mk (kh P "_law_odd_ask") (.str "_law_odd_ask" 611) (.ref 312)),
 (DictEntry.mk (kh P "_law_bent") (.str "_law_bent" 617) (.ref 317)),
 (DictEntry.mk (kh P "_law_refused") (.str "_law_refused" 628) (.ref 324)),
 (DictEntry.mk (kh P "_law_no_ring") (.str "_law_no_ring" 639) (.ref 331)),
 (DictEntry.mk (kh P "law") (.str "law" 655) (.ref 338))]
noncomputable def LK:List Value:=[(.int 2 0),(.int 0 0),(.ref 20),(.int 6 0),(.int 0 0),(.ref 40),(.int 8 0),(.int 0 0),(.ref 52),(.int 14 0),(.int 0 0),(.ref 71),(.int 19 0),(.int 0 0),(.ref 90),(.int 21 0),(.int 0 0),(.ref 102),(.int 26 0),(.int 0 0),(.ref 121),(.int 32 0),(.int 0 0),(.ref 140),(.int 40 0),(.int 0 0),(.ref 147),(.int 42 0),(.int 0 0),(.ref 154),(.int 44 0),(.int 0 0),(.ref 161),(.int 46 0),(.int 0 0),(.ref 168),(.int 48 0),(.int 0 0),(.ref 173),(.int 56 0),(.int 0 0),(.ref 180),(.int 61 0),(.int 0 0),(.ref 187),(.int 67 0),(.int 0 0),(.ref 194),(.int 71 0),(.int 0 0),(.ref 201),(.int 79 0),(.int 0 0),(.ref 208),(.int 88 0),(.int 0 0),(.ref 215),(.int 93 0),(.int 0 0),(.ref 222),(.int 104 0),(.int 0 0),(.ref 229),(.int 112 0),(.int 0 0),(.ref 236),(.int 116 0),(.int 0 0),(.ref 241),(.int 122 0),(.int 0 0),(.ref 248),(.int 132 0),(.int 0 0),(.ref 255),(.int 142 0),(.int 0 0),(.ref 262),(.int 156 0),(.int 0 0),(.ref 269),(.int 158 0),(.int 0 0),(.ref 276),(.int 160 0),(.int 0 0),(.ref 283),(.int 163 0),(.int 0 0),(.ref 290),(.int 167 0),(.int 0 0),(.ref 297),(.int 172 0),(.int 0 0),(.ref 304),(.int 175 0),(.int 0 0),(.ref 311),(.int 199 0),(.int 0 0),(.ref 316),(.int 218 0),(.int 0 0),(.ref 323),(.int 231 0),(.int 0 0),(.ref 330),(.int 235 0),(.int 0 0),(.ref 337)]
noncomputable def LM(P:Params):List (Nat×Obj):=[(12,uu (LK.take 0))]
noncomputable def T0(P:Params):BT:=K6 15 (λb=>xV [12] P (LM P) ob b 0) 1 0 0
noncomputable abbrev S0(w:World)(os:OsState):SharedT:=⟨T0 w.params,15,jV,#[],⟨0,0,0,0⟩,187,os⟩
noncomputable def LN(P:Params):List (Nat×Obj):=[(3,nu P (.str "ringloads.errors" 187) ((yl P).take 1) 10),(12,uu (LK.take 3)),(31,(Obj.mk (.type "type") none (.cls (PySem.ClassData.mk "LoadError" [(.type "ValueError")] [(.ref 31),(.type "ValueError"),(.type "Exception"),(.type "BaseException"),(.type "object")] 30 "LoadError" true [] [] false none false)) #[(some (.ref 15)),none,(some (.str "LoadError" 189)),(some (.str "LoadError" 197)),(some (.builtin "ValueError.__new__")),(some (.bool true))]))]
noncomputable def T1(P:Params):BT:=K6 35 (λb=>xV [3,12,31] P (LN P) ob b 1) 1 0 1
noncomputable abbrev S1(w:World)(os:OsState):SharedT:=⟨T1 w.params,35,jV,#[],⟨0,0,0,0⟩,215,os⟩
noncomputable def LO(P:Params):List (Nat×Obj):=[(3,nu P (.str "ringloads.errors" 187) ((yl P).take 2) 11),(12,uu (LK.take 6)),(31,(Obj.mk (.type "type") none (.cls (PySem.ClassData.mk "LoadError" [(.type "ValueError")] [(.ref 31),(.type "ValueError"),(.type "Exception"),(.type "BaseException"),(.type "object")] 30 "LoadError" true [] [(.ref 44)] false none false)) #[(some (.ref 15)),none,(some (.str "LoadError" 189)),(some (.str "LoadError" 197)),(some (.builtin "ValueError.__new__")),(some (.bool true))]))]
noncomputable def T2(P:Params):BT:=K6 47 (λb=>xV [3,12,31] P (LO P) ob b 2) 1 0 2
noncomputable abbrev S2(w:World)(os:OsState):SharedT:=⟨T2 w.params,47,jV,#[],⟨0,0,0,0⟩,231,os⟩
noncomputable def LP(P:Params):List (Nat×Obj):=[(3,nu P (.str "ringloads.errors" 187) ((yl P).take 3) 12),(12,uu (LK.take 9)),(31,(Obj.mk (.type "type") none (.cls (PySem.ClassData.mk "LoadError" [(.type "ValueError")] [(.ref 31),(.type "ValueError"),(.type "Exception"),(.type "BaseException"),(.type "object")] 30 "LoadError" true [] [(.ref 44),(.ref 63)] false none false)) #[(some (.ref 15)),none,(some (.str "LoadError" 189)),(some (.str "LoadError" 197)),(some (.builtin "ValueError.__new__")),(some (.bool true))]))]
noncomputable def T3(P:Params):BT:=K6 66 (λb=>xV [3,12,31] P (LP P) ob b 3) 1 0 3
noncomputable abbrev S3(w:World)(os:OsState):SharedT:=⟨T3 w.params,66,jV,#[],⟨0,0,0,0⟩,258,os⟩
noncomputable def LQ(P:Params):List (Nat×Obj):=[(3,nu P (.str "ringloads.errors" 187) ((yl P).take 4) 13),(12,uu (LK.take 12)),(31,(Obj.mk (.type "type") none (.cls (PySem.ClassData.mk "LoadError" [(.type "ValueError")] [(.ref 31),(.type "ValueError"),(.type "Exception"),(.type "BaseException"),(.type "object")] 30 "LoadError" true [] [(.ref 44),(.ref 63),(.ref 82)] false none false)) #[(some (.ref 15)),none,(some (.str "LoadError" 189)),(some (.str "LoadError" 197)),(some (.builtin "ValueError.__new__")),(some (.bool true))]))]
noncomputable def T4(P:Params):BT:=K6 85 (λb=>xV [3,12,31] P (LQ P) ob b 4) 1 0 4
noncomputable abbrev S4(w:World)(os:OsState):SharedT:=⟨T4 w.params,85,jV,#[],⟨0,0,0,0⟩,283,os⟩
noncomputable def LR(P:Params):List (Nat×Obj):=[(3,nu P (.str "ringloads.errors" 187) ((yl P).take 5) 14),(12,uu (LK.take 15)),(31,(Obj.mk (.type "type") none (.cls (PySem.ClassData.mk "LoadError" [(.type "ValueError")] [(.ref 31),(.type "ValueError"),(.type "Exception"),(.type "BaseException"),(.type "object")] 30 "LoadError" true [] [(.ref 44),(.ref 63),(.ref 82),(.ref 94)] false none false)) #[(some (.ref 15)),none,(some (.str "LoadError" 189)),(some (.str "LoadError" 197)),(some (.builtin "ValueError.__new__")),(some (.bool true))]))]
noncomputable def T5(P:Params):BT:=K6 97 (λb=>xV [3,12,31] P (LR P) ob b 5) 1 0 5
noncomputable abbrev S5(w:World)(os:OsState):SharedT:=⟨T5 w.params,97,jV,#[],⟨0,0,0,0⟩,299,os⟩
noncomputable def LS(P:Params):List (Nat×Obj):=[(3,nu P (.str "ringloads.errors" 187) ((yl P).take 6) 15),(12,uu (LK.take 18)),(31,(Obj.mk (.type "type") none (.cls (PySem.ClassData.mk "LoadError" [(.type "ValueError")] [(.ref 31),(.type "ValueError"),(.type "Exception"),(.type "BaseException"),(.type "object")] 30 "LoadError" true [] [(.ref 44),(.ref 63),(.ref 82),(.ref 94),(.ref 113)] false none false)) #[(some (.ref 15)),none,(some (.str "LoadError" 189)),(some (.str "LoadError" 197)),(some (.builtin "ValueError.__new__")),(some (.bool true))]))]
noncomputable def T6(P:Params):BT:=K6 116 (λb=>xV [3,12,31] P (LS P) ob b 6) 1 0 6
noncomputable abbrev S6(w:World)(os:OsState):SharedT:=⟨T6 w.params,116,jV,#[],⟨0,0,0,0⟩,324,os⟩
noncomputable def LU(P:Params):List (Nat×Obj):=[(3,nu P (.str "ringloads.names" 360) ((yl P).take 12) 21),(12,uu (LK.take 33))]
noncomputable def T7(P:Params):BT:=K6 163 (λb=>xV [3,12] P (LU P) ob b 7) 1 0 7
noncomputable abbrev S7(w:World)(os:OsState):SharedT:=⟨T7 w.params,163,jV,#[],⟨0,0,0,0⟩,386,os⟩
noncomputable def LV(P:Params):List (Nat×Obj):=[(3,nu P (.str "law_ringloads_k06_rings_refused" 451) ((yl P).take 26) 35),(12,uu (LK.take 66))]
noncomputable def T8(P:Params):BT:=K6 238 (λb=>xV [3,12] P (LV P) ob b 8) 1 0 8
noncomputable abbrev S8(w:World)(os:OsState):SharedT:=⟨T8 w.params,238,jV,#[],⟨0,0,0,0⟩,494,os⟩
noncomputable def LW(P:Params):List (Nat×Obj):=[(3,nu P (.str "law_ringloads_k06_rings_refused" 451) ((yl P).take 38) 47),(12,uu (LK.take 102))]
noncomputable def T9(P:Params):BT:=K6 318 (λb=>xV [3,12] P (LW P) ob b 9) 1 0 9
noncomputable abbrev S9(w:World)(os:OsState):SharedT:=⟨T9 w.params,318,jV,#[],⟨0,0,0,0⟩,618,os⟩
noncomputable def Ho(P:Params):List (Nat×Obj):=[(3,nu P (.str "law_ringloads_k06_rings_refused" 451) ((yl P).take 41) 50),(12,uu (LK.take 111))]
noncomputable def LX(P:Params):BT:=K6 339 (λb=>xV [3,12] P (Ho P) ob b 10) 1 0 10
noncomputable abbrev LY(w:World)(os:OsState):SharedT:=⟨LX w.params,339,jV,#[],⟨0,0,0,0⟩,656,os⟩
noncomputable abbrev env:Env:={scope:=pr.main.scope,locals:=mainNs,globals:=mainNs,cells:=[],code:=.ref 13,frame:=some 14}
noncomputable abbrev cE:Code:=.body (behindTheImports pr) env
noncomputable abbrev B:List Frame:=[topFrame ⟨0,0,0,0⟩]
noncomputable def Hq:List Stmt:=(pr.main.body.drop 0).take 2
theorem LZ(w:World)(os:OsState):segRunT treeTable pr w 11 (some (.ref 6)) 1 227 (S0 w os) (piecesOf Hq env cE ⟨0,0,0,0⟩ B)=some (.next,S1 w os,cE,⟨2,0,5,39⟩):=iW z_
noncomputable def Hr:List Stmt:=(pr.main.body.drop 2).take 1
theorem Ma(w:World)(os:OsState):segRunT treeTable pr w 11 (some (.ref 6)) 1 214 (S1 w os) (piecesOf Hr env cE ⟨2,0,5,39⟩ B)=some (.next,S2 w os,cE,⟨6,0,7,8⟩):=iW z_
noncomputable def Hs:List Stmt:=(pr.main.body.drop 3).take 1
theorem Mb(w:World)(os:OsState):segRunT treeTable pr w 11 (some (.ref 6)) 1 248 (S2 w os) (piecesOf Hs env cE ⟨6,0,7,8⟩ B)=some (.next,S3 w os,cE,⟨8,0,13,28⟩):=iW z_
noncomputable def Ht:List Stmt:=(pr.main.body.drop 4).take 1
theorem Mc(w:World)(os:OsState):segRunT treeTable pr w 11 (some (.ref 6)) 1 246 (S3 w os) (piecesOf Ht env cE ⟨8,0,13,28⟩ B)=some (.next,S4 w os,cE,⟨14,0,18,28⟩):=iW z_
noncomputable def Hu:List Stmt:=(pr.main.body.drop 5).take 1
theorem Md(w:World)(os:OsState):segRunT treeTable pr w 11 (some (.ref 6)) 1 214 (S4 w os) (piecesOf Hu env cE ⟨14,0,18,28⟩ B)=some (.next,S5 w os,cE,⟨19,0,20,8⟩):=iW z_
noncomputable def Hv:List Stmt:=(pr.main.body.drop 6).take 1
theorem Me(w:World)(os:OsState):segRunT treeTable pr w 11 (some (.ref 6)) 1 246 (S5 w os) (piecesOf Hv env cE ⟨19,0,20,8⟩ B)=some (.next,S6 w os,cE,⟨21,0,25,28⟩):=iW z_
noncomputable def Hw:List Stmt:=(pr.main.body.drop 7).take 8
theorem Mf(w:World)(os:OsState):segRunT treeTable pr w 11 (some (.ref 6)) 1 392 (S6 w os) (piecesOf Hw env cE ⟨21,0,25,28⟩ B)=some (.next,S7 w os,cE,⟨44,0,45,101⟩):=iW z_
noncomputable def Hx:List Stmt:=(pr.main.body.drop 15).take 16
theorem Mg(w:World)(os:OsState):segRunT treeTable pr w 11 (some (.ref 6)) 1 384 (S7 w os) (piecesOf Hx env cE ⟨44,0,45,101⟩ B)=some (.next,S8 w os,cE,⟨112,0,115,42⟩):=iW z_
noncomputable def Hy:List Stmt:=(pr.main.body.drop 31).take 12
theorem Mh(w:World)(os:OsState):segRunT treeTable pr w 11 (some (.ref 6)) 1 385 (S8 w os) (piecesOf Hy env cE ⟨112,0,115,42⟩ B)=some (.next,S9 w os,cE,⟨199,0,217,100⟩):=iW z_
noncomputable def Fi:List Stmt:=(pr.main.body.drop 43).take 3
theorem Iz(w:World)(os:OsState):segRunT treeTable pr w 11 (some (.ref 6)) 1 105 (S9 w os) (piecesOf Fi env cE ⟨199,0,217,100⟩ B)=some (.next,LY w os,cE,⟨235,0,252,47⟩):=iW z_
noncomputable abbrev H1(P:Params):Heap:=absHeap (LX P) 339 jV
theorem pre(w:World)(os:OsState):topGo treeTable pr w 11 (some (.ref 6)) 12 ⟨boot_heap w.params,#[],boot_drawn,boot_toks,os⟩ (topStub pr)=some (⟨⟨⟨CN w.params⟩,jV⟩,#[],⟨0,0,0,0⟩,187,os⟩,⟨denote treeTable cE,cE,⟨0,0,0,0⟩,B⟩):=by rw[Fh];exact GR z_
theorem AL(w:World)(os:OsState):segRun treeTable pr w 11 (some (.ref 6)) 1 1 ⟨⟨⟨CN w.params⟩,jV⟩,#[],⟨0,0,0,0⟩,187,os⟩ (blockOf (behindTheImports pr) env cE ⟨0,0,0,0⟩ B)=some (.next,(S0 w os).abs,cE,⟨0,0,0,0⟩):=by kernel_rfl
theorem IV(w:World)(os:OsState):topRun treeTable pr w 11 (some (.ref 6)) 2 (LY w os).abs ⟨doneF .next,cE,⟨235,0,252,47⟩,B⟩=some ⟨H1 w.params,#[],⟨0,0,0,0⟩,656,os⟩:=Fg z_
theorem CP:behindTheImports pr=(Hq++(Hr++(Hs++(Ht++(Hu++(Hv++(Hw++(Hx++(Hy++(Fi++[])))))))))):=by kernel_rfl
theorem run(w:World)(os:OsState):topRun treeTable pr w 11 (some (.ref 6)) (12+(1+(227+(214+(248+(246+(214+(246+(392+(384+(385+(105+2)))))))))))) ⟨boot_heap w.params,#[],boot_drawn,boot_toks,os⟩ (topStub pr)=some ⟨H1 w.params,#[],⟨0,0,0,0⟩,656,os⟩ :=
 go_top (pre w os) (piece_block (AL w os) (CO CP (Ou (Ot (LZ w os)) (Ou (Ot (Ma w os)) (Ou (Ot (Mb w os)) (Ou (Ot (Mc w os)) (Ou (Ot (Md w os)) (Ou (Ot (Me w os)) (Ou (Ot (Mf w os)) (Ou (Ot (Mg w os)) (Ou (Ot (Mh w os)) (Ou (Ot (Iz w os)) (piece_nil (IV w os))))))))))))))
noncomputable abbrev q:Program:=view pr [23,45]
noncomputable def loose:List Str:=(["LoadError","NoNumber","NoRing","NoSlide","TooMany","NoString","NoText","greatest_shared","LONGEST_NAME","is_whole","is_number_below","are_two_wholes","is_ratio","is_name","FEWEST_TIES","MOST_TIES","MOST_ASKS","look_at_ring","look_at_rooms","look_at_each_ask","is_ask","_law_begun","_law_take","_law_low","_law_amount","_law_names","_law_rooms","_law_ends","_law_ring","_law_copy","_law_no_list","_law_odd_ratio","_law_odd_room","_law_odd_name","_law_odd_place","_law_odd_ask","_law_bent","_law_refused","_law_no_ring"]:List String).map Str.ofString
noncomputable def Kf(P:Params):Frag:=(3,((Ho P).getD 0 (0,default)).2)::[(2,boot_o_2 P),(15,(f1 P).getD 0 default),(16,(f1 P).getD 1 default),(17,(f1 P).getD 2 default),(18,(f1 P).getD 3 default),(19,(f1 P).getD 4 default),(20,(f1 P).getD 5 default),(21,(f1 P).getD 6 default),(22,(f1 P).getD 7 default),(23,(f1 P).getD 8 default),(24,(f1 P).getD 9 default),(25,(f1 P).getD 10 default),(26,(f1 P).getD 11 default),(27,(f1 P).getD 12 default),(28,(f1 P).getD 13 default),(29,(f1 P).getD 14 default),(30,(f1 P).getD 15 default),(31,(f1 P).getD 16 default),(32,(f1 P).getD 17 default),(33,(f1 P).getD 18 default),(34,(f1 P).getD 19 default),(35,(f2 P).getD 0 default),(36,(f2 P).getD 1 default),(37,(f2 P).getD 2 default),(38,(f2 P).getD 3 default),(39,(f2 P).getD 4 default),(40,(f2 P).getD 5 default),(41,(f2 P).getD 6 default),(42,(f2 P).getD 7 default),(43,(f2 P).getD 8 default),(44,(f2 P).getD 9 default),(45,(f2 P).getD 10 default),(46,(f2 P).getD 11 default),(47,(f3 P).getD 0 default),(48,(f3 P).getD 1 default),(49,(f3 P).getD 2 default),(50,(f3 P).getD 3 default),(51,(f3 P).getD 4 default),(52,(f3 P).getD 5 default),(53,(f3 P).getD 6 default),(54,(f3 P).getD 7 default),(55,(f3 P).getD 8 default),(56,(f3 P).getD 9 default),(57,(f3 P).getD 10 default),(58,(f3 P).getD 11 default),(59,(f3 P).getD 12 default),(60,(f3 P).getD 13 default),(61,(f3 P).getD 14 default),(62,(f3 P).getD 15 default),(63,(f3 P).getD 16 default),(64,(f3 P).getD 17 default),(65,(f3 P).getD 18 default),(66,(f4 P).getD 0 default),(67,(f4 P).getD 1 default),(68,(f4 P).getD 2 default),(69,(f4 P).getD 3 default),(70,(f4 P).getD 4 default),(71,(f4 P).getD 5 default),(72,(f4 P).getD 6 default),(73,(f4 P).getD 7 default),(74,(f4 P).getD 8 default),(75,(f4 P).getD 9 default),(76,(f4 P).getD 10 default),(77,(f4 P).getD 11 default),(78,(f4 P).getD 12 default),(79,(f4 P).getD 13 default),(80,(f4 P).getD 14 default),(81,(f4 P).getD 15 default),(82,(f4 P).getD 16 default),(83,(f4 P).getD 17 default),(84,(f4 P).getD 18 default),(85,(f5 P).getD 0 default),(86,(f5 P).getD 1 default),(87,(f5 P).getD 2 default),(88,(f5 P).getD 3 default),(89,(f5 P).getD 4 default),(90,(f5 P).getD 5 default),(91,(f5 P).getD 6 default),(92,(f5 P).getD 7 default),(93,(f5 P).getD 8 default),(94,(f5 P).getD 9 default),(95,(f5 P).getD 10 default),(96,(f5 P).getD 11 default),(97,(f6 P).getD 0 default),(98,(f6 P).getD 1 default),(99,(f6 P).getD 2 default),(100,(f6 P).getD 3 default),(101,(f6 P).getD 4 default),(102,(f6 P).getD 5 default),(103,(f6 P).getD 6 default),(104,(f6 P).getD 7 default),(105,(f6 P).getD 8 default),(106,(f6 P).getD 9 default),(107,(f6 P).getD 10 default),(108,(f6 P).getD 11 default),(109,(f6 P).getD 12 default),(110,(f6 P).getD 13 default),(111,(f6 P).getD 14 default),(112,(f6 P).getD 15 default),(113,(f6 P).getD 16 default),(114,(f6 P).getD 17 default),(115,(f6 P).getD 18 default),(116,(f7 P).getD 0 default),(117,(f7 P).getD 1 default),(118,(f7 P).getD 2 default),(119,(f7 P).getD 3 default),(120,(f7 P).getD 4 default),(121,(f7 P).getD 5 default),(122,(f7 P).getD 6 default),(123,(f7 P).getD 7 default),(124,(f7 P).getD 8 default),(125,(f7 P).getD 9 default),(126,(f7 P).getD 10 default),(127,(f7 P).getD 11 default),(128,(f7 P).getD 12 default),(129,(f7 P).getD 13 default),(130,(f7 P).getD 14 default),(131,(f7 P).getD 15 default),(132,(f7 P).getD 16 default),(133,(f7 P).getD 17 default),(134,(f7 P).getD 18 default),(140,(f9 P).getD 5 default),(141,(f9 P).getD 6 default),(147,(K7 P).getD 5 default),(148,(K7 P).getD 6 default),(154,(K8 P).getD 5 default),(155,(K8 P).getD 6 default),(161,(K9 P).getD 5 default),(162,(K9 P).getD 6 default),(168,(La P).getD 5 default),(169,(La P).getD 6 default),(173,(Ld P).getD 3 default),(174,(Ld P).getD 4 default),(180,(Lf P).getD 5 default),(181,(Lf P).getD 6 default),(187,(Lg P).getD 5 default),(188,(Lg P).getD 6 default),(194,(Lh P).getD 5 default),(195,(Lh P).getD 6 default),(201,(Li P).getD 5 default),(202,(Li P).getD 6 default),(208,(Lj P).getD 5 default),(209,(Lj P).getD 6 default),(215,(Lk P).getD 5 default),(216,(Lk P).getD 6 default),(222,(Ll P).getD 5 default),(223,(Ll P).getD 6 default),(229,(Ln P).getD 5 default),(230,(Ln P).getD 6 default),(236,(Lo P).getD 5 default),(237,(Lo P).getD 6 default),(241,(Lp P).getD 3 default),(242,(Lp P).getD 4 default),(248,(Lq P).getD 5 default),(249,(Lq P).getD 6 default),(255,(Lr P).getD 5 default),(256,(Lr P).getD 6 default),(262,(Ls P).getD 5 default),(263,(Ls P).getD 6 default),(269,(Lu P).getD 5 default),(270,(Lu P).getD 6 default),(276,(Lv P).getD 5 default),(277,(Lv P).getD 6 default),(283,(Lw P).getD 5 default),(284,(Lw P).getD 6 default),(290,(Lx P).getD 5 default),(291,(Lx P).getD 6 default),(297,(Ly P).getD 5 default),(298,(Ly P).getD 6 default),(304,(Lz P).getD 5 default),(305,(Lz P).getD 6 default),(311,(LA P).getD 5 default),(312,(LA P).getD 6 default),(316,(LC P).getD 3 default),(317,(LC P).getD 4 default),(323,(LD P).getD 5 default),(324,(LD P).getD 6 default),(330,(LF P).getD 5 default),(331,(LF P).getD 6 default),(337,(LG P).getD 5 default),(338,(LG P).getD 6 default)]
noncomputable abbrev as:List Addr:=[3,2,15,16,17,18,19,20,21,22,23,24,25,26,27,28,29,30,31,32,33,34,35,36,37,38,39,40,41,42,43,44,45,46,47,48,49,50,51,52,53,54,55,56,57,58,59,60,61,62,63,64,65,66,67,68,69,70,71,72,73,74,75,76,77,78,79,80,81,82,83,84,85,86,87,88,89,90,91,92,93,94,95,96,97,98,99,100,101,102,103,104,105,106,107,108,109,110,111,112,113,114,115,116,117,118,119,120,121,122,123,124,125,126,127,128,129,130,131,132,133,134,140,141,147,148,154,155,161,162,168,169,173,174,180,181,187,188,194,195,201,202,208,209,215,216,222,223,229,230,236,237,241,242,248,249,255,256,262,263,269,270,276,277,283,284,290,291,297,298,304,305,311,312,316,317,323,324,330,331,337,338]
noncomputable abbrev Hk:Hook:=kHook Kf as (λ_=>by kernel_rfl)
noncomputable abbrev Xt:Shared→Bool:=fun s=>xlAt q [] s && recOk (RowW.records PySem.Challenge.rw_ringloads_k06_rings_refused.row.toRowW) s
theorem size (w:World):((boot_heap w.params).isNs mainGlobals && (#[]:Array GenState).size == 0,(boot_heap w.params).objs.size,(boot_heap w.params).nsMap mainGlobals "__annotations__")=(true,11,some (.ref 6)):=by kernel_rfl
theorem GS(w:World)(os:OsState):(staticsOk (importedModules pr.main.body) (boot_heap w.params) (H1 w.params) && namesBound pr (H1 w.params) && gensDone ⟨H1 w.params,#[],⟨0,0,0,0⟩,656,os⟩ && laidKept (boot_heap w.params) (H1 w.params))=true:=by kernel_rfl
theorem GT(w:World)(os:OsState):openSeen q loose (importedModules pr.main.body) Xt true ⟨H1 w.params,#[],⟨0,0,0,0⟩,656,os⟩=openGood q loose:=by rw[Fast.te4187177175401517315];kernel_rfl
theorem GU(w:World)(os:OsState):Hk.obs ⟨H1 w.params,#[],⟨0,0,0,0⟩,656,os⟩=Hk.val w:=by kernel_rfl
theorem Fj:opening pr=plainProg pr.main.scope.names:=by kernel_rfl
theorem left:LeftO pr q loose Xt Hk.obs Hk.val 6002:=LeftO.of_pieces (M:=(12+(1+(227+(214+(248+(246+(214+(246+(392+(384+(385+(105+2))))))))))))) (boot_open Fj x_ (λs=>by kernel_rfl)) size run y_ (λw=>funext λos=>looks_pair (GS w os) (looks_pair (GT w os) (GU w os)))
end Hd
namespace My
open PySem L2
local macro_rules | `(tactic| walk_at "w")=>do
 let ids:=("ub Ce Gu Cg Gv xk Es Cd Ax Cc t9 oY mG Ax Kw B3 kJ J0 w8 nT tV jQ zu tX ql Hc Ks Ko uV Kn zy B0 zA Eg Gj BX Gk t6 mD y4 wK rT BH rV DC yH Ba DE yI Bb yU DT Br BB B9 zD DZ F8 BD D1 Ga BG Gc Dy Dz yG v5 rO DY y3 Bz wG uS y7 Gb zd FE rP lj zb a8 JH aY aK JG av v7 wC b7 dj m9 bH d3 aM ba ao cu aJ JA yK kE vk dR jb oJ CZ JE ly Bd F4 bu d7 vm rK yT FC tO J0 kJ cO y6 BA wJ List.all_cons List.all_nil Bool.and_true Bool.true_and qT F5 wj Bg pX Bf y2 Bx mw sk sq uZ cw xA xB zQ hU bj tQ jc hX pZ fY p5 Am yj Bh C0 kF An oM zJ zK zL zM zN Co Cp Cq Cr ED EE Cv Cw Gy Gz xG xH Cz DW yY AB ud xJ xw ue nV xy EG zO List.length_map xx xC xD xE zR u4 xF sr su sx qq sy o6 zS Ct uL yR yQ wc jI oP jf zT CA zU zV zW zX u5 qr qt xI CB yV beq_self_eq_true String.reduceBEq String.reduceEq reduceCtorEq y1 uM qf bZ eN bc uP wy uQ jg wx DV List.getElem?_cons_zero List.getElem?_cons_succ List.set_cons_zero List.set_cons_succ List.cons_append List.nil_append List.replicate_succ List.replicate_zero List.map_cons List.map_nil List.drop_succ_cons List.drop_zero Option.getD_some true_and decide_eq_true_eq Bool.not_eq_true' decide_eq_false_iff_not ite_true ite_false Bool.false_eq_true Bool.true_eq_false if_true if_false List.length_cons List.length_nil Nat.reduceAdd Nat.reduceSub sf si Ey Ez Gw Ig Ih Ii Option.some.injEq exists_eq_left' exists_eq_left".splitOn " ").toArray.map fun s=>Lean.mkIdent ((s.splitOn ".").foldl Lean.Name.mkStr Lean.Name.anonymous)
 `(tactic| try simp only [$[$ids:ident],*])
local macro_rules | `(tactic| walk_at "o")=>`(tactic| first | exact Or.inl rfl | exact Or.inr rfl)
theorem v4{a b:Prop}(h:a∨b:=by walk_at "o"):a∨b:=h
noncomputable abbrev cP:Stmt:=Hd.top 9
noncomputable abbrev kP:List Str:=["one","other","rest"]
noncomputable abbrev kQ:Stmt:=Hd.top 12
noncomputable abbrev vb:List Str:=["thing"]
noncomputable abbrev cQ:Stmt:=Hd.top 13
noncomputable abbrev kR:List Str:=["thing","many"]
noncomputable abbrev dB:Stmt:=Hd.top 14
noncomputable abbrev lE:List Str:=["thing"]
noncomputable abbrev kT:Stmt:=Hd.top 15
noncomputable abbrev vc:List Str:=["thing"]
noncomputable abbrev jW:Stmt:=Hd.top 16
noncomputable abbrev qE:List Str:=["thing"]
noncomputable abbrev ee:Stmt:=Hd.top 22
noncomputable abbrev mL:List Str:=["rooms","number","room"]
noncomputable abbrev pd:Stmt:=Hd.top 25
noncomputable abbrev Ag:List Str:=["thing","is_end"]
noncomputable abbrev cA:Stmt:=Hd.top 24
noncomputable abbrev jX:List Str:=["asks","is_end","taken","number","ask"]
noncomputable abbrev cZ:Stmt:=Hd.top 23
noncomputable abbrev ny:List Str:=["asks","places"]
noncomputable abbrev eW:Stmt:=Hd.top 21
noncomputable abbrev nB:List Str:=["thing"]
noncomputable abbrev ia:Stmt:=Hd.top 27
noncomputable abbrev qF:List Str:=["_law_script","_law_k","_law_cell"]
noncomputable abbrev jj:Stmt:=Hd.top 28
noncomputable abbrev sH:List Str:=["_law_state","_law_many","_law_digit","_law_drawn","_law_turn"]
noncomputable abbrev dh:Stmt:=Hd.top 31
noncomputable abbrev ib:List Str:=["_law_state","_law_many","_law_letters","_law_base","_law_at","_law_turn"]
noncomputable abbrev kU:Stmt:=Hd.top 29
noncomputable abbrev vd:List Str:=["_law_top","_law_bottom","_law_one","_law_share"]
noncomputable abbrev gm:Stmt:=Hd.top 30
noncomputable abbrev pf:List Str:=["_law_state","_law_least","_law_kind","_law_bottom","_law_top"]
noncomputable abbrev ic:Stmt:=Hd.top 32
noncomputable abbrev qG:List Str:=["_law_state","_law_ties","_law_kind","_law_alike","_law_one","_law_rooms_here","_law_more"]
noncomputable abbrev jk:Stmt:=Hd.top 33
noncomputable abbrev sI:List Str:=["_law_state","_law_shape","_law_places","_law_k","_law_one","_law_other"]
noncomputable abbrev jm:Stmt:=Hd.top 34
noncomputable abbrev sJ:List Str:=["_law_script","_law_at","_law_most","_law_count","_law_state","_law_places","_law_many","_law_kinds","_law_shape","_law_names_here","_law_rooms_here","_law_asks","_law_k","_law_one","_law_other"]
noncomputable abbrev dC:Stmt:=Hd.top 37
noncomputable abbrev lF:List Str:=["_law_state","_law_some"]
noncomputable abbrev ef:Stmt:=Hd.top 38
noncomputable abbrev mM:List Str:=["_law_state"]
noncomputable abbrev eh:Stmt:=Hd.top 39
noncomputable abbrev mN:List Str:=["_law_state","_law_letters","_law_letter","_law_some"]
noncomputable abbrev dD:Stmt:=Hd.top 40
noncomputable abbrev lG:List Str:=["_law_state","_law_places","_law_some"]
noncomputable abbrev eX:Stmt:=Hd.top 41
noncomputable abbrev nC:List Str:=["_law_state","_law_ring_here","_law_at","_law_places","_law_name","_law_one","_law_other","_law_size","_law_way","_law_whole","_law_some"]
noncomputable abbrev eY:Stmt:=Hd.top 36
noncomputable abbrev nD:List Str:=["_law_state","_law_row"]
noncomputable abbrev ej:Stmt:=Hd.top 42
noncomputable abbrev jn:List Str:=["_law_state","_law_ring_here","_law_part","_law_row","_law_way","_law_most","_law_at","_law_odd"]
noncomputable abbrev eZ:Stmt:=Hd.top 43
noncomputable abbrev nE:List Str:=["_law_thing","_law_part","_law_number","_law_error","e"]
noncomputable abbrev fb:Stmt:=Hd.top 44
noncomputable abbrev nF:List Str:=["_law_state","_law_ring_here","_law_rooms_here","_law_asks","_law_some"]
noncomputable abbrev jo:Stmt:=Hd.top 35
noncomputable abbrev sL:List Str:=["_law_ring_here"]
noncomputable abbrev Ah:Stmt:=Hd.top 45
noncomputable abbrev GV:List Str:=["_law_script","_law_ring_here","_law_at","_law_state","_law_part","_law_row","_law_number","_law_bent_here","_law_thing","_law_kept"]
def cB:FS:=λls p4=>∃a b:Int,ls=[.d (.int a),.d (.int b)]/\p4 (.d (.int (Int.gcd a b))) ls
def jq:W Fl:=(a8 (b7 2 (aK fY (av 0) (av 1)))
  (a8 (b7 0 (av 1))
  (b7 1 (av 2))))
def cR:W Fl:=(a8 (tj (aY (aK An (av 1) (wC (.int 0)))) jq)
  (dj (ba uL (ao (av 0) aJ))))
theorem jr:∀ls p4,ls.length=2->cB ls p4->cR (ls++List.replicate 1 .un) (bS ls p4):=by
 rintro ls p4 - ⟨a,b,rfl,h⟩;unfold cR;walk_at "w";refine⟨λn Z=>∃x y r,Z=[.d (.int x),.d (.int y),r]/\Int.gcd x y=Int.gcd a b/\n=y.natAbs,⟨_,a,b,_,rfl,rfl,rfl⟩,?_⟩;rintro n Z ⟨x,y,r,rfl,hg,rfl⟩;walk_at "w";split
 .
  rename_i hy;have hy:y≠0:=by simpa using hy
  exact⟨hy,_,iU x hy,y,x.fmod y,_,rfl,by rw[tI];exact hg,rfl⟩
 .
  rename_i hy;have hy:y=0:=by simpa using hy
  subst hy;refine⟨_,aI (aI bg),?_⟩
  have e:(if x<0 then -x else x)=((Int.gcd a b:Nat):Int):=by rw[<- hg,Int.gcd_zero_right];split<;>omega
  rw[e];exact h
def eu:FS:=λls p4=>(∃i:Int,ls=[.d (.int i)]/\p4 (.d (.bl true)) ls)∨∃d:D,ls=[.d d]/\(∀i,d≠.int i)/\p4 (.d (.bl false)) ls
def iI:W Fl:=(dj (ly (JG (jf "int") (av 0)) (Bd (aY (JG (jf "bool") (av 0))))))
theorem qH:∀ls p4,ls.length=1->eu ls p4->iI (ls++List.replicate 0 .un) (bS ls p4):=by
 rintro ls p4-(⟨i,rfl,h⟩|⟨d,rfl,hd,h⟩)
 . unfold iI;walk_at "w";exact⟨_,aI bg,h⟩
 .
  unfold iI
  cases d with
  |int i=>exact absurd rfl (hd i)
  |_=>walk_at "w"; exact⟨_,aI bg,h⟩
def cD:FS:=λls p4=>∃(d:D)(n:Int),ls=[.d d,.d (.int n)]/\p4 (.d (.bl (gj d n))) ls
def cS:W Fl:=(dj (ly (d3 eu (ao (av 0) aJ)) (mw yj Am (wC (.int 0)) (av 0) (av 1))))
theorem jt:∀ls p4,ls.length=2->cD ls p4->cS (ls++List.replicate 0 .un) (bS ls p4):=by
 rintro ls p4 - ⟨d,n,rfl,h⟩;unfold cS;by_cases hd:∃i,d=.int i
 .
  obtain⟨i,rfl⟩:=hd;have h:p4 (.d (.bl (decide (0<=i/\i<n)))) [.d (.int i),.d (.int n)]:=h;walk_at "w";refine .inl ⟨i,rfl,?_⟩;walk_at "w";by_cases c:0<=i
  .
   rw[if_pos c];have e:decide (0<=i/\i<n)=decide (i<n):=by rw[decide_eq_decide];omega
   rw[e]at h;exact⟨_,aI (aI bg),h⟩
  . rw[if_neg c];have e:decide (0<=i/\i<n)=false:=MP xL;rw[e]at h;exact⟨_,aI (aI bg),h⟩
 .
  have e:gj d n=false:=by
   unfold gj;split
   . exact absurd ⟨_,rfl⟩ hd
   . rfl
  rw[e]at h;walk_at "w";refine .inr ⟨d,rfl,λi e=>hd ⟨i,e⟩,?_⟩;walk_at "w";exact⟨_,aI (aI bg),h⟩
noncomputable def GW:D->Bool
 |.tup [.int _,.int _]=>true
 |_=>false
theorem CQ{d:D}(h:GW d=true):∃i j,d=.tup [.int i,.int j]:=by
 unfold GW at h;split at h
 . exact⟨_,_,rfl⟩
 . cases h
theorem xW(d:D):(∃i j,d=.tup [.int i,.int j])∨(∀i j,d≠.tup [.int i,.int j]):=by
 cases h:GW d with
 |true=>exact .inl (CQ h)
 |false=>exact .inr λi j e=>by subst e;cases h
def cT:FS:=λls p4=>(∃i j:Int,ls=[.d (.tup [.int i,.int j])]/\p4 (.d (.bl true)) ls)∨∃d:D,ls=[.d d]/\(∀i j,d≠.tup [.int i,.int j])/\p4 (.d (.bl false)) ls
def b9:W Fl:=(dj (ly (JG (jf "tuple") (av 0)) (ly (aK kF (ba d4 (ao (av 0) aJ)) (wC (.int 2))) (ly (d3 eu (ao (aK bI (av 0) (wC (.int 0))) aJ)) (d3 eu (ao (aK bI (av 0) (wC (.int 1))) aJ))))))
theorem jY:∀ls p4,ls.length=1->cT ls p4->b9 (ls++List.replicate 0 .un) (bS ls p4):=by
 rintro ls p4-(⟨i,j,rfl,h⟩|⟨d,rfl,hd,h⟩)
 . unfold b9;walk_at "w";refine .inl ⟨_,rfl,?_⟩;walk_at "w";refine .inl ⟨_,rfl,?_⟩;walk_at "w";exact⟨_,aI bg,h⟩
 .
  unfold b9;have IV:bS [.d d] p4 (.rt (.d (.bl false))) [.d d]:=⟨_,aI bg,h⟩;by_cases ht:∃xs,d=.tup xs
  .
   obtain⟨xs,rfl⟩:=ht;by_cases hl:xs.length=2
   .
    obtain⟨x,y,rfl⟩:∃x y,xs=[x,y]:=by rcases xs with _|⟨x,_|⟨y,_|⟨z,r⟩⟩⟩<;>simp at hl;exact⟨_,_,rfl⟩
    have wh:∀z:D,(∃i,z=.int i)∨(∀i,z≠.int i):=λz=>by cases z<;>simp
    walk_at "w";rcases wh x with⟨i,rfl⟩|hx
    .
     refine .inl ⟨_,rfl,?_⟩;rcases wh y with⟨j,rfl⟩|hy
     . exact absurd rfl (hd i j)
     . walk_at "w";refine .inr ⟨_,rfl,hy,?_⟩;walk_at "w";exact IV
    . refine .inr ⟨_,rfl,hx,?_⟩;walk_at "w";exact IV
   .
    walk_at "w";have e:¬((xs.length:Int)=2):=by omega
    simp only[e,decide_false];exact IV
  .
   have ei:je "tuple" d=false:=by
    cases d<;>first
     |exact absurd ⟨_,rfl⟩ ht
     |rfl
   walk_at "w";rw[ei];walk_at "w";exact IV
def gn:FS:=λls p4=>∃d:D,ls=[.d d]/\p4 (.d (.bl (nq d))) ls
def iJ:W Fl:=(dj (ly (d3 cT (ao (av 0) aJ)) (ly (aK C0 (aK bI (av 0) (wC (.int 1))) (wC (.int 1))) (aK kF (d3 cB (ao (aK bI (av 0) (wC (.int 0))) (ao (aK bI (av 0) (wC (.int 1))) aJ))) (wC (.int 1))))))
theorem qI:∀ls p4,ls.length=1->gn ls p4->iJ (ls++List.replicate 0 .un) (bS ls p4):=by
 rintro ls p4 - ⟨d,rfl,h⟩;by_cases hd:∃i j,d=.tup [.int i,.int j]
 .
  obtain⟨i,j,rfl⟩:=hd;unfold iJ;walk_at "w";refine .inl ⟨_,_,rfl,?_⟩;walk_at "w";have e:nq (.tup [.int i,.int j])=(decide (1<=j) && decide ((Int.gcd i j:Int)=1)):=rfl;rw[e]at h;split
  . rename_i hj;refine⟨_,_,rfl,?_⟩;walk_at "w";have hj':(1:Int)<=j:=hj;rw[Nn hj',N2]at h;exact⟨_,aI bg,h⟩
  . rename_i hj;have hj':¬(1:Int)<=j:=hj;rw[MP hj',Nx]at h;exact⟨_,aI bg,h⟩
 . have hn:∀i j,d≠.tup [.int i,.int j]:=λi j e=>hd ⟨i,j,e⟩;rw[CF hn]at h;unfold iJ;walk_at "w";refine .inr ⟨_,rfl,hn,?_⟩;walk_at "w";exact⟨_,aI bg,h⟩
def kW:FS:=λls p4=>∃d:D,ls=[.d d]/\AD d/\p4 (.d (.bl (lC d))) ls
def mO:W L:=(rP (wC (.str "a")) [(zb,(av 0)),(zb,(wC (.str "z")))])
def mP:W Fl:=(a8 (JH (oJ (aY (JG (jf "str") (av 0)))) (dj (wC (.bl false))) bH)
  (dj (ly (mw yj yj (wC (.int 1)) (ba d4 (ao (av 0) aJ)) (wC (.int 8))) (ba D2 (ao (bu (qf 1 [] (BH (av 0)) (cw 0) ng mO)) aJ)))))
theorem sM:∀ls p4,ls.length=1->kW ls p4->mP (ls++List.replicate 0 .un) (bS ls p4):=by
 rintro ls p4 - ⟨d,rfl,ha,h⟩;unfold mP
 cases d with
 | str x =>
  obtain⟨hx,hs⟩:=ha x rfl;walk_at "w";have el:=z6 x;have e8:lC (.str x)=((decide (1<=x.cps.size) && decide (x.cps.size<=8)) && x.cps.toList.all o8):=rfl;rw[e8]at h;refine⟨MH (show x.length<=1000000 by omega) x_,?_⟩;by_cases h1:1<=x.cps.size
  .
   rw[if_pos (show(1:Int)<=(x.length:Int) by omega)];by_cases h2:x.cps.size<=8
   .
    rw[if_pos (show(x.length:Int)<=8 by omega)];rw[Nn h1,Nn h2,N2,N2]at h;refine⟨hx,by unfold lp;rw[MD,Of];exact MH (show x.cps.size<=1000000 by omega) x_,?_⟩;unfold lp;refine oZ (enc:=λc=>D.str ⟨#[c]⟩) (h:=λc=>D.bl (o8 c)) _ _ _ (λc hc Q q=>?_) λl'=>?_
    .
     unfold mO;walk_at "w";unfold o8 at q
     cases e1:rR "a" ⟨#[c]⟩with
     |false=>rw[e1,Nx]at q;rw[if_neg (by simp)];exact q
     |true=>rw[e1,N2]at q;rw[if_pos rfl];exact q
    .
     walk_at "w";intro aa;refine⟨x.cps.toList.map o8,by rw[List.map_map];rfl,?_⟩;have e9:(x.cps.toList.map o8).all id=x.cps.toList.all o8:=by rw[List.all_map];rfl
     rw[e9];exact⟨_,aI bg,h⟩
   . rw[if_neg (show ¬(x.length:Int)<=8 by omega)];rw[MP h2,NN,Nx]at h;exact⟨_,aI bg,h⟩
  . rw[if_neg (show ¬(1:Int)<=(x.length:Int) by omega)];rw[MP h1,Nx,Nx]at h;exact⟨_,aI bg,h⟩
 |_=>walk_at "w"; exact⟨_,aI bg,h⟩
def dE:Kl:=λds p4 xp=>∃ d:D,ds=[d]/\(∀ rs,d=.lst rs->rs.length<=1000000)/\(cY d=none->p4 (.d .non))/\∀ k,cY d=some k->xp (NR "rooms" (mI k))
def cU(xp:Xc->Prop):W Fl:=(JH (JE (oJ (aY (d3 gn (ao (av 2) aJ)))) (aY (aK yj (aK bI (av 2) (wC (.int 0))) (wC (.int 0))))) (jQ "NoRing" ["part","number"] xp (ao (wC (.str "rooms")) (ao (av 1) aJ))) bH)
def eA(xp:Xc->Prop):W Fl:=(a8 (JH (JE (oJ (aY (JG (jf "list") (av 0)))) (oJ (aY (mw yj yj (wC (.int 2)) (ba d4 (ao (av 0) aJ)) (wC (.int 12)))))) (jQ "NoRing" ["part","number"] xp (ao (wC (.str "rooms")) (ao (wC .non) aJ))) bH)
  (Bg (y2 (av 0)) (lz [1,2]) (cU xp)))
theorem n5{xp:Xc->Prop}{d:D}{p4:Fl->Ev->Prop}:∀(rs:List D)(i:Nat)(l1 l2:L),((rs.findIdx? λr=>!KY r)=none->∀ l1 l2,p4 .nx [.d d,l1,l2])->(∀ k,(rs.findIdx? λr=>!KY r)=some k->xp (NR "rooms" (.int ((i+k:Nat):Int)))) ->
  hW (lz [1,2]) (cU xp) (xS i rs) [.d d,l1,l2] p4
 |[],i,l1,l2,h,_=>h rfl l1 l2
 | r::rs,i,l1,l2,h,hx=>by
  rw[nZ,n4];unfold cU;walk_at "w";refine⟨r,rfl,?_⟩;rw[List.findIdx?_cons]at h hx
  cases hb:KY r with
  | true =>
   rw[hb]at h hx
   obtain⟨a,b,rfl⟩:∃a b,r=.tup [.int a,.int b]:=by
    cases hq:xW r with
    |inl z=>exact z
    |inr z=>rw[ET z]at hb;cases hb
   have hb':nq (.tup [.int a,.int b])=true/\0<a:=by simpa[KY]using hb
   rw[hb'.1];walk_at "w";rw[if_neg (by omega)];refine n5 rs (i+1) _ _ (λe=>h (by simpa using e)) λk e=>?_;have:=hx (k+1) (by simp[e]);rw[show i+1+k=i+(k+1) by omega];exact this
  | false =>
   rw[hb]at h hx;have bad:=hx 0 v6;rw[Nat.add_zero]at bad
   cases hr:nq r with
   | false =>
    walk_at "w";exact⟨.inr trivial,x_,bad⟩
   | true =>
    obtain⟨a,b,rfl⟩:=um hr;have ha:¬0<a:=by intro z;simp only[KY,hr,N2,decide_eq_false_iff_not]at hb;exact hb z
    walk_at "w";rw[if_pos (by omega)];exact⟨.inr trivial,x_,bad⟩
theorem kX:∀ds p4 xp,ds.length=1->dE ds p4 xp->eA xp (ds.map .d++List.replicate 2 .un) (Kn p4):=by
 rintro ds p4 xp - ⟨d,rfl,hl,h,hx⟩;unfold eA
 cases d with
 | lst rs =>
  have kz:=hl rs rfl;simp only[cY]at h hx;walk_at "w";have bad:¬ (2<=rs.length/\rs.length<=12)->xp (NR "rooms" .non):=λz=>hx none (by rw[if_neg z]);by_cases h1:(2:Int)<=(rs.length:Int)
  .
   rw[if_pos h1];by_cases h2:(rs.length:Int)<=12
   . rw[if_neg (λz=>z h2)];have z:2<=rs.length/\rs.length<=12:=⟨xL,xL⟩;rw[if_pos z]at h hx;rw[nY];refine n5 rs 0 _ _ (λe l1 l2=>h (by rw[e];rfl)) λk e=>?_;rw[Nat.zero_add];exact hx (some k) (by rw[e];rfl)
   . rw[if_pos h2];exact⟨.inr trivial,x_,bad xL⟩
  . rw[if_neg h1];exact⟨.inr trivial,x_,bad xL⟩
 | _ =>
  walk_at "w";exact⟨.inr trivial,x_,hx _ rfl⟩
def bD:FS:=λls p4=>∃(d:D)(n:Int),ls=[.d d,.d (.int n)]/\p4 (.d (.bl (gj d n))) []
def cF:W L:=(d3 cD (ao (av 0) (ao (av 1) aJ)))
theorem iN:∀a d p4,bD [.d a,.d d] p4->cF [.d a,.d d] (λr _=>p4 r []):=by rintro a d p4 ⟨a',n,e,h⟩;cases e;unfold cF;walk_at "w";exact⟨a,n,rfl,h⟩
def mQ:FS:=λls p4=>∃(d:D)(n:Int),ls=[.d d,.d (.fn "look_at_asks" (.int n))]/\qV d/\p4 (.d (.bl (u9 n d))) ls
def n6:W Fl:=(dj (ly (aK An (aK bI (av 0) (wC (.int 1))) (aK bI (av 0) (wC (.int 2)))) (aK C0 (aK bI (aK bI (av 0) (wC (.int 3))) (wC (.int 0))) (wC (.int 0)))))
def n8:W Fl:=(a8 (JH (JE (oJ (aY (mG bD "look_at_asks" 1 (aK bI (av 0) (wC (.int 1)))))) (oJ (aY (mG bD "look_at_asks" 1 (aK bI (av 0) (wC (.int 2))))))) (dj (wC (.bl false))) bH)
  n6)
def n9:W Fl:=(a8 (JH (JE (oJ (aY (d3 kW (ao (aK bI (av 0) (wC (.int 0))) aJ)))) (oJ (aY (d3 gn (ao (aK bI (av 0) (wC (.int 3))) aJ))))) (dj (wC (.bl false))) bH)
  n8)
def ph:W Fl:=(a8 (JH (JE (oJ (aY (JG (jf "tuple") (av 0)))) (aY (aK An (ba d4 (ao (av 0) aJ)) (wC (.int 4))))) (dj (wC (.bl false))) bH)
  n9)
theorem ve:∀ls p4,ls.length=2->mQ ls p4->ph (ls++List.replicate 0 .un) (bS ls p4):=by
 rintro ls p4 - ⟨d,n,rfl,ha,h⟩;unfold ph
 cases d with
 | tup xs =>
  match xs,ha,h with
  | [a,b,c,s],ha,h =>
   have hA:=ha _ rfl a rfl;rw[sG]at h;have no:(lC a && nq s && (gj b n && gj c n) && (!(JN b c) && EU s))=false->bS [.d (.tup [a,b,c,s]),.d (.fn "look_at_asks" (.int n))] p4 (.rt (.d (.bl false))) [.d (.tup [a,b,c,s]),.d (.fn "look_at_asks" (.int n))]:=λe=>by rw[e]at h;exact⟨_,aI (aI bg),h⟩
   walk_at "w";unfold n9;walk_at "w";refine⟨_,rfl,hA,?_⟩
   cases e1:lC a with
   | false =>
    walk_at "w";exact no (by rw[e1];rfl)
   | true =>
    walk_at "w";refine⟨_,rfl,?_⟩
    cases e2:nq s with
    | false =>
     walk_at "w";exact no (by rw[e1,e2];rfl)
    | true =>
     walk_at "w";unfold n8;walk_at "w";refine⟨b,n,rfl,?_⟩
     cases e3:gj b n with
     | false =>
      walk_at "w";exact no (by rw[e1,e2,e3];rfl)
     | true =>
      walk_at "w";refine⟨c,n,rfl,?_⟩
      cases e4:gj c n with
      | false =>
       walk_at "w";exact no (by rw[e1,e2,e3,e4];rfl)
      | true =>
       obtain⟨i,rfl⟩:=uk e3;obtain⟨j,rfl⟩:=uk e4;obtain⟨p,q,rfl⟩:=um e2;rw[e1,e2,e3,e4,N2,N2,N2]at h;walk_at "w";unfold n6;walk_at "w";have eq:JN (.int i) (.int j)=decide (i=j):=rfl;have ep:EU (.tup [.int p,.int q])=decide (0<=p):=rfl;rw[eq,ep]at h;by_cases hij:i=j
       . rw[if_neg (λz=>z hij)];rw[Nn hij]at h;exact⟨_,aI (aI bg),h⟩
       . rw[if_pos hij];rw[MP hij]at h;exact⟨_,aI (aI bg),h⟩
  |[],_,h=>walk_at "w"; exact⟨_,aI (aI bg),h⟩
  |[_],_,h=>walk_at "w"; exact⟨_,aI (aI bg),h⟩
  |[_,_],_,h=>walk_at "w"; exact⟨_,aI (aI bg),h⟩
  |[_,_,_],_,h=>walk_at "w"; exact⟨_,aI (aI bg),h⟩
  | a::b::c::s::e::r,_,h =>
   walk_at "w";rw[if_pos (by omega)];exact⟨_,aI (aI bg),h⟩
 | _ =>
  walk_at "w";exact⟨_,aI (aI bg),h⟩
def ck:Kl:=λds p4 xp=>∃(d:D)(n:Int),ds=[d,.fn "look_at_asks" (.int n)]/\qy d/\(kO n d=none->p4 (.d .non))/\∀ k,kO n d=some k->xp (NR "asks" (mI k))
def b8(xp:Xc->Prop):W Fl:=(a8 (JH (JE (oJ (aY (d3 mQ (ao (av 4) (ao (av 1) aJ))))) (aY (Gj false 2 (aK bI (av 4) (wC (.int 0)))))) (jQ "NoRing" ["part","number"] xp (ao (wC (.str "asks")) (ao (av 3) aJ))) bH)
  (BX 2 (aK bI (av 4) (wC (.int 0))) (wC (.bl true))))
def cG(xp:Xc->Prop):W Fl:=(a8 (JH (oJ (aY (JG (jf "list") (av 0)))) (jQ "NoRing" ["part","number"] xp (ao (wC (.str "asks")) (ao (wC .non) aJ))) bH)
  (a8 (b7 2 (Gk []))
  (Bg (y2 (av 0)) (lz [3,4]) (b8 xp))))
theorem qJ{xp:Xc->Prop}{d:D}{n:Int}{a:Addr}{p4:Fl->Ev->Prop}:∀(as:List D)(i:Nat)(zs:List Str)(l1 l2:L),(∀ b∈as,qV b)->zs.length+as.length<=1000->(dU n as zs i=none->∀ l0 l1 l2,p4 .nx [.d d,.d (.fn "look_at_asks" (.int n)),l0,l1,l2]) ->
  (∀ k,dU n as zs i=some k->xp (NR "asks" (.int (k:Int)))) ->
  hW (lz [3,4]) (b8 xp) (xS i as) [.d d,.d (.fn "look_at_asks" (.int n)),.dic a (KZ zs),l1,l2] p4
 |[],i,zs,l1,l2,_,_,h,_=>h rfl _ l1 l2
 | b::as,i,zs,l1,l2,ha,hl,h,hx=>by
  rw[MY]at hl;rw[nZ,n4];unfold b8;walk_at "w";refine⟨b,n,rfl,ha b Mw,?_⟩;unfold dU at h hx
  cases e:u9 n b with
  | false =>
   rw[e,if_neg (λz=>by cases z.1)]at hx;walk_at "w";exact⟨.inr trivial,x_,hx _ rfl⟩
  | true =>
   obtain⟨x,p,q,s,rfl,hn,hs⟩:=CI e;walk_at "w";rw[uo];by_cases hm:x∈zs
   . rw[if_neg (λz=>z.2 hm)]at hx;rw[if_pos (Nn hm)];exact⟨.inr trivial,x_,hx _ rfl⟩
   .
    rw[if_pos ⟨e,hm⟩]at h hx;rw[if_neg (by simpa using hm)];walk_at "w";refine⟨by rw[CJ];exact Mz (show zs.length<1000 by omega) x_,?_⟩;rw[Ad hm];have e2:dU n as (zs++[x]) (i+1)=dU n as (lD (.tup [.str x,.int p,.int q,s])::zs) (i+1):=qD as _ _ _ λy=>by simp[lD,or_comm]
    refine qJ as (i+1) (zs++[x]) _ _ (λc hc=>ha c (so _ hc)) (by rw[MK,NQ];omega) (λz=>h (by rw[<- e2];exact z)) λk z=>hx k (by rw[<- e2];exact z)
theorem iO:∀ds p4 xp,ds.length=2->ck ds p4 xp->cG xp (ds.map .d++List.replicate 3 .un) (Kn p4):=by
 rintro ds p4 xp - ⟨d,n,rfl,ha,h,hx⟩;unfold cG
 cases d with
 | lst as =>
  obtain⟨hl,ha⟩:=ha as rfl;simp only[kO]at h hx;walk_at "w";intro a;rw[nY];refine qJ as 0 [] _ _ ha (by rw[NY];omega) (λz l0 l1 l2=>h (by rw[z];rfl)) λk z=>hx (some k) (by rw[z];rfl)
 | _ =>
  walk_at "w";exact⟨.inr trivial,x_,hx _ rfl⟩
def eB:Kl:=λds p4 xp=>∃(d:D)(n:Int),ds=[d,.int n]/\qy d/\(df n d=none->p4 (.d .non))/\∀ k,df n d=some k->xp (NR "asks" (mI k))
def ff(xp:Xc->Prop):W Fl:=(a8 (JH (CZ (aY (JG (jf "list") (av 0))) (aY (aK Bh (ba d4 (ao (av 0) aJ)) (wC (.int 20))))) (jQ "NoRing" ["part","number"] xp (ao (wC (.str "asks")) (ao (wC .non) aJ))) bH)
  (m9 (oY ck xp "look_at_asks" 1 (av 0))))
theorem lH:∀ds p4 xp,ds.length=2->eB ds p4 xp->ff xp (ds.map .d++List.replicate 0 .un) (Kn p4):=by
 rintro ds p4 xp - ⟨d,n,rfl,ha,h,hx⟩;have nl:∀ k,kJ (NR "asks" (mI k)).ds=true:=λk=>by cases k <;> rfl
 unfold ff
 cases d with
 | lst as =>
  obtain⟨hl,_⟩:=ha as rfl;simp only[df]at h hx;walk_at "w";by_cases h20:20<as.length
  . rw[if_pos h20]at hx;rw[if_pos (by omega)];exact⟨.inr trivial,x_,hx _ rfl⟩
  . rw[if_neg h20]at h hx;rw[if_neg (by omega)];refine⟨_,n,rfl,ha,λe=>⟨rfl,h e⟩,λk e=>⟨nl k,hx k e⟩⟩
 | _ =>
  walk_at "w";refine⟨_,n,rfl,ha,λe=>⟨rfl,h e⟩,λk e=>⟨nl k,hx k e⟩⟩
def cH:Kl:=λds p4 xp=>∃d:D,ds=[d]/\(∀r a,d=.tup [r,a]->(∀rs,r=.lst rs->rs.length<=1000000)/\qy a)/\(dz d=none->p4 (.d .non))/\∀p k,dz d=some (p,k)->xp (NR p (mI k))
def fg(xp:Xc->Prop):W Fl:=(a8 (JH (JE (oJ (aY (JG (jf "tuple") (av 0)))) (aY (aK An (ba d4 (ao (av 0) aJ)) (wC (.int 2))))) (jQ "NoRing" ["part","number"] xp (ao (wC (.str "ring")) (ao (wC .non) aJ))) bH)
  (a8 (m9 (nT dE xp (ao (aK bI (av 0) (wC (.int 0))) aJ)))
  (m9 (nT eB xp (ao (aK bI (av 0) (wC (.int 1))) (ao (bu (ba d4 (ao (aK bI (av 0) (wC (.int 0))) aJ))) aJ))))))
theorem lI:∀ds p4 xp,ds.length=1->cH ds p4 xp->fg xp (ds.map .d++List.replicate 0 .un) (Kn p4):=by
 rintro ds p4 xp - ⟨d,rfl,hA,h,hx⟩;unfold fg
 cases d with
 | tup xs =>
  match xs,hA,h,hx with
  | [r,a],hA,h,hx =>
   obtain⟨hr,ha⟩:=hA r a rfl;simp only[dz]at h hx;walk_at "w";refine⟨r,rfl,hr,λe=>?_,λk e=>hx _ _ (by rw[e])⟩;rw[e]at h hx
   have hl:∃rs,r=.lst rs:=by
    cases r with
    |lst rs=>exact⟨rs,rfl⟩
    |_=>cases e
   obtain⟨rs,rfl⟩:=hl;walk_at "w";refine⟨a,_,rfl,ha,λe=>h (by simp only[EV,e,Option.map_none]),λk e=>hx _ _ (by simp only[EV,e,Option.map_some])⟩
  |[],_,_,hx=>walk_at "w"; exact⟨.inr trivial,x_,hx _ _ rfl⟩
  |[_],_,_,hx=>walk_at "w"; exact⟨.inr trivial,x_,hx _ _ rfl⟩
  | a::b::c::r,_,_,hx =>
   walk_at "w";rw[if_pos (by omega)];exact⟨.inr trivial,x_,hx _ _ rfl⟩
 | _ =>
  walk_at "w";exact⟨.inr trivial,x_,hx _ _ rfl⟩
def bT:FS:=λls p4=>∃(ns:List Int)(k:Int),ls=[.d (.lst (ns.map .int)),.d (.int k)]/\0<=k/\k<=100/\∀a xs,eV xs->p4 (.own a xs) ls
def ie:W Fl:=(a8 (b7 2 (wC (.int 0)))
  (a8 (JH (aY (aK Am (av 1) (ba d4 (ao (av 0) aJ)))) (b7 2 (aK bI (av 0) (av 1))) bH)
  (dj (jb (ao (av 2) (ao (aK fY (aK bj (aK bj (aK fY (av 2) (wC (.int 2147483587))) (aK hX (aK hX (wC (.int 48271)) (av 1)) (av 1))) (wC (.int 13))) (wC (.int 2147483587))) (ao (aK C0 (av 2) (aK p5 (wC (.int 10)) (wC (.int 18)))) aJ)))))))
theorem nG:∀ls p4,ls.length=2->bT ls p4->ie (ls++List.replicate 1 .un) (bS ls p4):=by
 rintro ls p4 - ⟨ns,k,rfl,h0,h1,h⟩;unfold ie
 have IV:∀(c:Int)(Z:Ev)(e:Z=[.d (.lst (ns.map .int)),.d (.int k),.d (.int c)]),∀a:Addr,bS [.d (.lst (ns.map .int)),.d (.int k)] p4 (.rt (.own a [.int c,.int ((c.fmod 2147483587+48271*k*k+13).fmod 2147483587),.bl (decide ((10:Int)^18<=c))])) Z:=λc Z e a=>by
  refine⟨_,aI (aI bg),h a _ ⟨_,_,_,rfl,?_,?_⟩⟩
  . rw[M5 _ x_];exact N7 _ x_
  . rw[M5 _ x_];have:=N4 (c.fmod 2147483587+48271*k*k+13) (b:=2147483587) x_;omega
 have hb1:cM 48271:=bA x_;have hb2:cM k:=bA (Nd (show k.natAbs<=100 by omega) x_);have hb3:cM (48271*k):=bA (Nd (show(48271*k).natAbs<=4827100 by omega) x_);walk_at "w"
 try rw[MD]
 split
 .
  rename_i hk;have hk:k<(ns.length:Int):=by simpa using hk
  have hi:k.toNat<ns.length:=by omega
  refine⟨.int ns[k.toNat],xq h0 (by rw[Nc,MG hi];rfl),?_⟩;exact⟨x_,hb1,hb2,hb3,hb2,x_,x_,x_,x_,x_,IV _ _ rfl⟩
 . exact⟨x_,hb1,hb2,hb3,hb2,x_,x_,x_,x_,x_,IV _ _ rfl⟩
def aj:FS:=λls p4=>∃(a:Addr)(xs:List D)(m:Int),ls=[.own a xs,.d (.int m)]/\eV xs/\0<m/\m<=10^60/\∀(r:Int)(ys:List D),eV ys->0<=r->r<m->p4 (.d (.int r)) [.own a ys,.d (.int m)]
def gp:W Fl:=(a8 (rK 0 (wC (.int 1)) (aK fY (aK bj (aK hX (d7 0 (vm 0 (wC (.int 1))) (aK bI (av 0) (wC (.int 1)))) (wC (.int 39373))) (wC (.int 17))) (wC (.int 2147483647))))
  (b7 3 (bu (aK bj (aK hX (av 3) (wC (.int 2147483629))) (aK fY (aK hX (d7 0 (vm 0 (wC (.int 1))) (aK bI (av 0) (wC (.int 1)))) (d7 0 (vm 0 (wC (.int 1))) (aK bI (av 0) (wC (.int 1))))) (wC (.int 2147483629)))))))
def ju:W Fl:=(a8 (JH (aY (d7 0 (vm 0 (wC (.int 2))) (aK bI (av 0) (wC (.int 2))))) (a8 (b7 2 (aK fY (d7 0 (vm 0 (wC (.int 0))) (aK bI (av 0) (wC (.int 0)))) (av 1)))
  (a8 (rK 0 (wC (.int 0)) (aK pZ (d7 0 (vm 0 (wC (.int 0))) (aK bI (av 0) (wC (.int 0)))) (av 1)))
  (a8 (rK 0 (wC (.int 2)) (aK Bh (d7 0 (vm 0 (wC (.int 0))) (aK bI (av 0) (wC (.int 0)))) (wC (.int 0))))
  (dj (v7 2))))) bH)
  (a8 (b7 3 (wC (.int 0)))
  (a8 (Bg (pX (aK bj (wC (.int 1)) (aK hX (wC (.int 8)) (ba wc (ao (aK Bh (av 1) (aK p5 (wC (.int 10)) (wC (.int 6)))) aJ))))) (cw 4) gp)
  (dj (aK fY (aK pZ (av 3) (wC (.int 64))) (av 1))))))
theorem qK{a:Addr}{c:Int}{m x2:L}{p4:Fl->Ev->Prop}:∀(items:List D)(sd dr:Int)(j:Nat)(x4:L),j+items.length<=100->0<=sd->sd<2147483647->0<=dr->dr<2^(40*j) ->
  (∀sd' dr' x',0<=sd'->sd' < 2147483647->0<=dr'->p4 .nx [.own a [.int c,.int sd',.bl false],m,x2,.d (.int dr'),x']) ->
  hW (cw 4) gp items [.own a [.int c,.int sd,.bl false],m,x2,.d (.int dr),x4] p4
 |[],sd,dr,j,x4,_,h0,h1,h2,h3,h=>h sd dr x4 h0 h1 h2
 | y::items,sd,dr,j,x4,hl,h0,h1,h2,h3,h=>by
  unfold hW gp;walk_at "w";obtain⟨r0,r1⟩:=gi (sd*39373+17) (m:=2147483647) x_;generalize (sd*39373+17).fmod 2147483647=s' at r0 r1 ⊢;obtain⟨q0,q1⟩:=gi (s'*s') (m:=2147483629) x_;generalize (s'*s').fmod 2147483629=t' at q0 q1 ⊢;have hl':j+(items.length+1)<=100:=hl;have b1:cM sd:=sj (n:=40) h0 xL x_;have b2:cM s':=sj (n:=40) r0 xL x_;have b3:cM dr:=sj (n:=40*j) h2 h3 xL;have b4:cM 39373:=bA x_;have b5:cM 2147483629:=bA x_;refine⟨b1,b4,x_,b3,b5,b2,b2,x_,?_⟩;refine qK items s' (dr*2147483629+t') (j+1) _ xL r0 r1 xL ?_ h;have e:(2:Int)^(40*(j+1))=2^(40*j)*1099511627776:=by rw[Nat.mul_succ,Int.pow_add];rfl
  omega
theorem pj:∀ls p4,ls.length=2->aj ls p4->ju (ls++List.replicate 3 .un) (bS ls p4):=by
 rintro ls p4 - ⟨a,xs,m,rfl,⟨c,sd,t,rfl,h0,h1⟩,hm,hM,h⟩;unfold ju;have hm0:m≠0:=by omega
 have hmz:=qo xL hM
 cases t with
 | true =>
  walk_at "w";obtain⟨r0,r1⟩:=gi c hm;exact⟨hm0,hm0,hmz,_,bC Mw (aI bg),h _ _ ⟨_,_,_,rfl,h0,h1⟩ r0 r1⟩
 | false =>
  walk_at "w";refine⟨x_,x_,x_,bA x_,bA (by split<;>decide),⟨by split<;>decide,by split<;>decide⟩,?_⟩;refine qK (c:=c) _ sd 0 0 _ (by simp only[oO,MD,List.length_range];split<;>decide) h0 h1 x_ x_ λsd' dr' x' g0 g1 g2=>?_;walk_at "w";obtain⟨r0,r1⟩:=gi (dr'.fdiv 64) hm;exact⟨x_,x_,hm0,_,bC Mw (aI bg),h _ _ ⟨_,_,_,rfl,g0,g1⟩ r0 r1⟩
def gu:FS:=λls p4=>∃(a:Addr)(xs:List D)(many:Nat),ls=[.own a xs,.d (.int many)]/\eV xs/\many<=26 /\
 ∀(zs:List Str)(c:Addr)(ys:List D),eV ys->zs.length=many->(∀z∈zs,sE z)->zs.Nodup->p4 (.own c (zs.map .str)) [.own a ys,.d (.int many)]
def iX:W L:=(aK bj (aK bj (y1 (av 1) none (some (av 2))) (aK bI (av 3) (aK fY (aK bj (av 4) (av 0)) (wC (.int 26))))) (y1 (av 1) (some (aK bj (av 2) (wC (.int 1)))) none))
def iY:W Fl:=(dj (qf 1 [3,4,2,5] (pX (av 1)) (cw 0) ng iX))
def iZ:W Fl:=(a8 (b7 5 (bu (aM aj 0 0 (cu 0 (ao (wC (.int 26)) aJ)))))
  iY)
def i2:W L:=(aK bI (av 1) (aM aj 0 2 (cu 2 (ao (wC (.int 26)) aJ))))
def i3:W Fl:=(a8 (b7 4 (bu (aM aj 0 0 (cu 0 (ao (bu (ba d4 (ao (av 3) aJ))) aJ)))))
  iZ)
def i4:W Fl:=(a8 (b7 3 (bu (Bx "" (qf 1 [2,0] (pX (aK bj (wC (.int 1)) (aM aj 0 0 (cu 0 (ao (wC (.int 8)) aJ))))) (cw 0) ng i2))))
  i3)
def ig:W Fl:=(a8 (b7 2 (wC (.str "abcdefghijklmnopqrstuvwxyz")))
  i4)
theorem nH:∀ls p4,ls.length=2->gu ls p4->ig (ls++List.replicate 4 .un) (bS ls p4):=by
 rintro ls p4 - ⟨a,xs,many,rfl,hx,hm,h⟩;unfold ig;walk_at "w";unfold i4;walk_at "w";refine⟨a,xs,8,rfl,hx,x_,x_,λr ys hy r0 r1=>⟨ys,rfl,?_⟩⟩;walk_at "w";refine⟨⟨xL,xL⟩,?_⟩;rw[o4];refine⟨by rw[MD,List.length_range];exact MH (show(1+r).toNat<=8 by omega) x_,?_⟩;refine uc _ (λj Z acc=>∃(l:L)(ys:List D)(cs:List Nat),Z=[l,.d (.str o7),.own a ys]/\eV ys/\acc=cs.map (λc=>D.str ⟨#[c]⟩)/\cs.length=j/\∀c∈cs,kM c) _ _ ⟨_,ys,[],rfl,hy,rfl,rfl,λc hc=>by simp at hc⟩ ?_ ?_
 .
  rintro j x Z acc hx ⟨l,ys,cs,rfl,hy,rfl,hl,hc⟩ Q hQ;unfold ng i2;walk_at "w";refine⟨a,ys,26,rfl,hy,x_,x_,λq ws hw q0 q1=>⟨ws,rfl,x_,_,nW q0 q1,?_⟩⟩;refine hQ _ _ ⟨_,ws,cs++[q.toNat+97],rfl,hw,v6,by simp[hl],λc hm=>?_⟩;rcases ML.mp hm with hm|hm
  . exact hc c hm
  . rw[Nk.mp hm];unfold kM;omega
 .
  rintro Z acc ⟨l,ys,cs,rfl,hy,rfl,hl,hc⟩;rw[MD,List.length_range]at hl;walk_at "w";intro aa;refine⟨cs.map λc=>⟨#[c]⟩,v6,by rw[uf,MD];show cs.length+cs.length*0<=_;omega,?_⟩
  have hb:sE (Txt.join "" (cs.map λc=>(⟨#[c]⟩:Str))):=by
   refine⟨?_,?_,?_⟩
   . rw[kN];omega
   . rw[kN];omega
   . rw[kN];exact hc
  generalize Txt.join "" (cs.map λc=>(⟨#[c]⟩:Str))=base at hb ⊢;have hbl:=iH base;have hb1:=hb.lo;have hb2:=hb.hi;unfold i3;walk_at "w";refine⟨MH (show base.length<=8 by omega) x_,a,ys,base.length,rfl,hy,xL,xL,λp ws hw p0 p1=>⟨ws,rfl,?_⟩⟩;unfold iZ;walk_at "w";refine⟨a,ws,26,rfl,hw,x_,x_,λt vs hv t0 t1=>⟨vs,rfl,?_⟩⟩;unfold iY;walk_at "w";refine⟨⟨xL,xL⟩,?_⟩;rw[o4];refine⟨by rw[MD,List.length_range];exact MH (show((many:Int)).toNat<=26 by omega) x_,?_⟩;refine oZ (h:=λk=>D.str (nameAt base p.toNat t.toNat k)) _ _ _ (λk hk Q q=>?_) λl'=>?_
  .
   have hk:k<many:=by have:=List.mem_range.mp hk;omega
   unfold iX;walk_at "w";refine⟨MH (show base.length<=8 by omega) x_,x_,x_,_,nW (i:=(t+(k:Int)).fmod 26) (gi _ x_).1 (gi _ x_).2,?_⟩;have e1:=zY (x:=base) p0 xL;have e2:=u6 (x:=base) (i:=p+1) xL xL;have l1:(Txt.slice base none (some p)).length<=8:=by rw[iH,e1,M8];omega
   have l2:(Txt.slice base (some (p+1)) none).length<=8:=by rw[iH,e2,Nm];omega
   have e3:((t+(k:Int)).fmod 26).toNat=(t.toNat+k) % 26:=by rw[M5 _ x_];omega
   have e4:Txt.slice base none (some p)++(⟨#[((t+(k:Int)).fmod 26).toNat+97]⟩:Str)++Txt.slice base (some (p+1)) none=nameAt base p.toNat t.toNat k:=by
    apply CC;rw[jT,jT,e1,e2,e3];have:(p+1).toNat=p.toNat+1:=by omega
    simp[L2.nameAt,this]
   have one:∀c:Nat,(⟨#[c]⟩:Str).length=1:=λ_=>rfl;have lc:(Txt.slice base none (some p)++(⟨#[((t+(k:Int)).fmod 26).toNat+97]⟩:Str)).length<=9:=by rw[iH,jT,MK,<- iH,<- iH,one];omega
   refine⟨MH (show _<=9 by rw[one];omega) x_,MH (show base.length<=8 by omega) x_,MH (Nat.add_le_add lc l2) x_,?_⟩;rw[e4];exact q
  .
   walk_at "w";intro c;refine⟨_,bC (ys:=vs) v6 (aI bg),?_⟩;have e:List.map (λk=>D.str (nameAt base p.toNat t.toNat k)) (List.range ((many:Int)).toNat)=((List.range many).map λk=>nameAt base p.toNat t.toNat k).map D.str:=by rw[List.map_map,Int.toNat_natCast];rfl
   rw[e];refine h _ c vs hv v6 (λz hz=>?_) (qw List.nodup_range λx hx y hy=>?_)
   . obtain⟨k,_,rfl⟩:=ND.mp hz;exact xK hb xL
   . exact u7 xL (by have:=List.mem_range.mp hx;omega) (by have:=List.mem_range.mp hy;omega)
def jv:FS:=λls p4=>∃t b:Int,ls=[.d (.int t),.d (.int b)]/\b≠0/\b.natAbs<2^9000/\p4 (.d (JX (Rat.divInt t b))) ls
def lq:W Fl:=(F5 2 3 (aK fY (av 3) (av 2)) (av 2))
def kY:W Fl:=(a8 (b7 2 (bu (ba uL (ao (av 0) aJ))))
  (a8 (b7 3 (bu (ba uL (ao (av 1) aJ))))
  (a8 (tj (aY (aK An (av 2) (wC (.int 0)))) lq)
  (a8 (JH (aY (aK Am (av 1) (wC (.int 0)))) (b7 3 (aK jc (wC (.int 0)) (av 3))) bH)
  (dj (dR (ao (aK pZ (av 0) (av 3)) (ao (aK pZ (av 1) (av 3)) aJ))))))))
theorem qL:∀ls p4,ls.length=2->jv ls p4->kY (ls++List.replicate 2 .un) (bS ls p4):=by
 rintro ls p4 - ⟨t,b,rfl,hb,hz,h⟩;unfold kY;walk_at "w";have h1:=yW (t:=t) hb;have h2:=Nd (yX (t:=t) hb) hz
 have IV:∀{g:Int}{Z:Ev},g=cN t b->g≠0/\g.natAbs<2^9000/\g≠0/\g.natAbs<2^9000/\2<=sizeLine/\bS [.d (.int t),.d (.int b)] p4 (.rt (.d (.tup [.int (t.fdiv g),.int (b.fdiv g)]))) Z:=λ{g Z} e=>by
  have e1:g≠0:=by rw[e];exact h1
  have e2:g.natAbs<2^9000:=by rw[e];exact h2
  refine⟨e1,e2,e1,e2,x_,_,aI (aI bg),?_⟩;rw[zH hb e];exact h
 refine⟨λn Z=>∃x y:Int,Z=[.d (.int t),.d (.int b),.d (.int x),.d (.int y)]/\0<=x/\0<=y/\Int.gcd x y=Int.gcd t b/\n=x.natAbs,⟨_,_,_,rfl,by split<;>omega,by split<;>omega,?_,rfl⟩,?_⟩
 .
  have e1:(if t<0 then -t else t)=(t.natAbs:Int):=by split<;>omega
  have e2:(if b<0 then -b else b)=(b.natAbs:Int):=by split<;>omega
  rw[e1,e2];simp[Int.gcd]
 .
  rintro n Z ⟨x,y,rfl,x0,y0,hg,rfl⟩;unfold lq;walk_at "w";split
  .
   rename_i hx;have hx:x≠0:=by simpa using hx
   refine⟨hx,_,iU y hx,_,_,rfl,(gi y xL).1,x0,?_,rfl⟩;rw[Int.gcd_comm,tI,Int.gcd_comm];exact hg
  .
   rename_i hx;have hx:x=0:=by simpa using hx
   subst hx;have hy:y=(Int.gcd t b:Int):=by rw[<- hg,Int.gcd_zero_left];omega
   split
   . rename_i hlt;exact IV (by simp[cN,hlt,hy])
   . rename_i hlt;exact IV (by simp[cN,hlt,hy])
def bK:FS:=λls p4=>∃(a:Addr)(xs:List D)(least kind:Int),ls=[.own a xs,.d (.int least),.d (.int kind)]/\eV xs/\0<=least/\least<=1/\0<=kind/\kind<5 /\
 ∀(q:Rat)(ys:List D),eV ys->0<=q->(least=1->0<q)->RB 60 q->p4 (.d (JX q)) [.own a ys,.d (.int least),.d (.int kind)]
def ij:W Fl:=(dj (d3 jv (ao (av 4) (ao (av 3) aJ))))
def ik:W Fl:=(a8 (b7 4 (bu (aK bj (av 1) (aM aj 0 0 (cu 0 (ao (aK bI (jb (ao (wC (.int 3)) (ao (wC (.int 10)) (ao (wC (.int 10)) (ao (wC (.int 40)) (ao (aK p5 (wC (.int 10)) (wC (.int 12))) aJ)))))) (av 2)) aJ))))))
  ij)
def gv:W Fl:=(a8 (b7 3 (bu (aK bj (wC (.int 1)) (aM aj 0 0 (cu 0 (ao (aK bI (jb (ao (wC (.int 1)) (ao (wC (.int 1)) (ao (wC (.int 4)) (ao (wC (.int 12)) (ao (wC (.int 12)) aJ)))))) (av 2)) aJ))))))
  ik)
theorem xX{t b:Int}(h0:0<=t)(h1:t<2^59)(h2:0<b)(h3:b<2^59):0<=Rat.divInt t b/\(0<t->0<Rat.divInt t b)/\RB 60 (Rat.divInt t b):=by
 have e:=Rat.divInt_nonneg (a:=t) (b:=b) h0 xL;refine⟨e,λht=>?_,RB.of_divInt xL ?_ ?_⟩
 .
  refine Rat.lt_of_le_of_ne e λz=>?_;have:Rat.divInt 0 1=Rat.divInt t b:=by rw[<- z];rfl
  rw[Rat.divInt_eq_divInt_iff x_ xL]at this;omega
 .
  have:(2:Int)^59=((2^59:Nat):Int):=by decide
  have:(2:Nat)^59<2^60:=by decide
  omega
 .
  have:(2:Int)^59=((2^59:Nat):Int):=by decide
  have:(2:Nat)^59<2^60:=by decide
  omega
theorem GX{k:Int}(h0:0<=k)(h1:k<5):∃m:Int,Jo [D.int 1,.int 1,.int 4,.int 12,.int 12] k=some (.int m)/\1<=m/\m<=12:=by
 obtain rfl|rfl|rfl|rfl|rfl:k=0∨k=1∨k=2∨k=3∨k=4:=by omega
 all_goals exact⟨_,rfl,x_,x_⟩
theorem GY{k:Int}(h0:0<=k)(h1:k<5):∃m:Int,Jo [D.int 3,.int 10,.int 10,.int 40,.int (10^12)] k=some (.int m)/\1<=m/\m<=10^12:=by
 obtain rfl|rfl|rfl|rfl|rfl:k=0∨k=1∨k=2∨k=3∨k=4:=by omega
 all_goals exact⟨_,rfl,x_,x_⟩
theorem mR:∀ls p4,ls.length=3->bK ls p4->gv (ls++List.replicate 2 .un) (bS ls p4):=by rintro ls p4 - ⟨a,xs,least,kind,rfl,hx,l0,l1,k0,k1,h⟩;obtain⟨m1,e1,m10,m11⟩:=GX k0 k1;obtain⟨m2,e2,m20,m21⟩:=GY k0 k1;unfold gv;walk_at "w";refine⟨x_,λ_=>⟨_,e1,a,xs,m1,rfl,hx,xL,xL,λr ys hy r0 r1=>⟨ys,rfl,?_⟩⟩⟩;unfold ik;walk_at "w";refine⟨x_,x_,x_,x_,λ_=>⟨_,e2,a,ys,m2,rfl,hy,xL,xL,λs zs hz s0 s1=>⟨zs,rfl,?_⟩⟩⟩;unfold ij;walk_at "w";obtain⟨a1,a2,a3⟩:=xX (t:=least+s) (b:=1+r) xL xL xL xL;exact⟨_,_,rfl,xL,qo xL xL,_,bC v6 (aI (aI bg)),h _ zs hz a1 (λe=>a2 xL) a3⟩
def gw:FS:=λls p4=>∃(a:Addr)(xs:List D)(n:Nat)(kind:Int),ls=[.own a xs,.d (.int n),.d (.int kind)]/\eV xs/\1<=n/\n<=1000/\0<=kind/\kind<5 /\
 ∀(qs:List Rat)(c:Addr)(ys:List D),eV ys->qs.length=n->(∀q∈qs,0<q/\RB 60 q)->p4 (.own c (qs.map JX)) [.own a ys,.d (.int n),.d (.int kind)]
def i5:W Fl:=(a8 (b7 6 (bu (aM bK 0 0 (cu 0 (ao (wC (.int 1)) (ao (av 2) aJ))))))
  (m9 (FC 5 (aK bI (jb (ao (av 4) (ao (av 6) aJ))) (ba wc (ao (aK kF (av 3) (wC (.int 2))) aJ))))))
def i6:W Fl:=(dj (v7 5))
def i7:W Fl:=(a8 (tj (aY (aK Am (d7 5 (yT 5) (ba d4 (ao (av 5) aJ))) (av 1))) i5)
  i6)
def fh:W Fl:=(a8 (b7 5 (jb (ao (av 4) aJ)))
  i7)
def i8:W Fl:=(a8 (JH (aY (aK kF (av 3) (wC (.int 0)))) (b7 4 (dR (ao (wC (.int 1)) (ao (wC (.int 1)) aJ)))) bH)
  fh)
def i9:W Fl:=(a8 (b7 4 (bu (aM bK 0 0 (cu 0 (ao (wC (.int 1)) (ao (av 2) aJ))))))
  i8)
def ip:W Fl:=(a8 (b7 3 (bu (aM aj 0 0 (cu 0 (ao (wC (.int 3)) aJ)))))
  i9)
theorem nI:∀ls p4,ls.length=3->gw ls p4->ip (ls++List.replicate 4 .un) (bS ls p4):=by
 rintro ls p4 - ⟨a,xs,n,kind,rfl,hx,n1,n2,k0,k1,h⟩;have one:JX 1=.tup [.int 1,.int 1]:=rfl
 have dm:∀(alike:Int)(p:Rat)(ys:List D),eV ys->0<p->RB 60 p ->
   fh [.own a ys,.d (.int n),.d (.int kind),.d (.int alike),.d (JX p),.un,.un] (bS [.own a xs,.d (.int n),.d (.int kind)] p4):=by
  intro alike p ys hy hp hb;unfold fh;walk_at "w";refine⟨x_,λc=>?_⟩;unfold i7;walk_at "w";refine⟨λm Z=>∃(qs:List Rat)(zs:List D)(l:L),Z=[.own a zs,.d (.int n),.d (.int kind),.d (.int alike),.d (JX p),.own c (qs.map JX),l]/\eV zs/\qs.length<=n/\m=n-qs.length/\∀q∈qs,0<q/\RB 60 q,⟨_,[p],ys,_,rfl,hy,n1,rfl,by intro q hq;rw[Nk.mp hq];exact⟨hp,hb⟩⟩,?_⟩;rintro m Z ⟨qs,zs,l,rfl,hz,hl,rfl,hq⟩;walk_at "w"
  try rw[MD]
  split
  .
   rename_i hlt;unfold i5;walk_at "w";refine⟨a,zs,1,kind,rfl,hz,x_,x_,k0,k1,λq ws hw q0 q1 qb=>⟨ws,rfl,?_⟩⟩;walk_at "w";have hs:qs.length<sizeLine:=by exact Nd (show qs.length<=1000 by omega) x_
   have more:∀q':Rat,0<q'->RB 60 q'->∃m,m<n-qs.length/\∃(qs':List Rat)(zs:List D)(l:L),[L.own a ws,.d (.int n),.d (.int kind),.d (.int alike),.d (JX p),.own c (qs.map JX++[JX q']),.d (JX q)]=[.own a zs,.d (.int n),.d (.int kind),.d (.int alike),.d (JX p),.own c (qs'.map JX),l]/\eV zs/\qs'.length<=n/\m=n-qs'.length/\∀q∈qs',0<q/\RB 60 q:=by
    intro q' p0 pb;refine⟨n-(qs++[q']).length,by rw[MK];simp only[NQ];omega,qs++[q'],ws,.d (JX q),by rw[List.map_append];rfl,hw,by rw[MK];simp only[NQ];omega,rfl,λz hz=>?_⟩;rcases ML.mp hz with hz|hz
    . exact hq z hz
    . rw[Nk.mp hz];exact⟨p0,pb⟩
   refine⟨x_,λ_=>?_⟩;by_cases h2:alike=2
   . refine⟨JX q,?_,hs,more q (q1 rfl) qb⟩;simp[h2,si]
   . refine⟨JX p,?_,hs,more p hp hb⟩;simp[h2,sf]
  .
   have e:qs.length=n:=by omega
   unfold i6;walk_at "w";exact⟨_,bC v6 (aI (aI bg)),h qs c zs hz e hq⟩
 unfold ip;walk_at "w";refine⟨a,xs,3,rfl,hx,x_,x_,λr ys hy r0 r1=>⟨ys,rfl,?_⟩⟩;unfold i9;walk_at "w";refine⟨a,ys,1,kind,rfl,hy,x_,x_,k0,k1,λq zs hz q0 q1 qb=>⟨zs,rfl,?_⟩⟩;unfold i8;walk_at "w";split
 . exact⟨x_,dm r 1 zs hz x_ ⟨x_,x_⟩⟩
 . exact dm r q zs hz (q1 rfl) qb
def iq:FS:=λls p4=>∃(a:Addr)(xs:List D)(shape k:Int)(n:Nat),ls=[.own a xs,.d (.int shape),.d (.int n),.d (.int k)]/\eV xs/\2<=n/\n<=1000/\0<=k/\k<=1000 /\
 ∀(i j:Nat)(ys:List D),eV ys->i<n->j<n->i≠j->p4 (.d (.tup [.int i,.int j])) [.own a ys,.d (.int shape),.d (.int n),.d (.int k)]
def jZ:W Fl:=(dj (dR (ao (av 4) (ao (av 5) aJ))))
def j2:W Fl:=(a8 (JH (aY (aK kF (av 1) (wC (.int 3)))) (dj (dR (ao (wC (.int 0)) (ao (bu (aK bj (wC (.int 1)) (aK fY (av 5) (aK jc (av 2) (wC (.int 1)))))) aJ)))) bH)
  jZ)
def j3:W Fl:=(a8 (JH (aY (aK kF (av 1) (wC (.int 2)))) (dj (dR (ao (bu (aK hX (aK fY (av 3) (wC (.int 2))) (aK jc (av 2) (wC (.int 1))))) (ao (bu (aK hX (aK jc (wC (.int 1)) (aK fY (av 3) (wC (.int 2)))) (aK jc (av 2) (wC (.int 1))))) aJ)))) bH)
  j2)
def j4:W Fl:=(a8 (JH (aY (aK kF (av 1) (wC (.int 1)))) (dj (dR (ao (aK fY (av 3) (av 2)) (ao (aK fY (aK bj (av 3) (aK pZ (av 2) (wC (.int 2)))) (av 2)) aJ)))) bH)
  j3)
def j5:W Fl:=(a8 (b7 5 (aK fY (aK bj (aK bj (av 4) (wC (.int 1))) (aM aj 0 0 (cu 0 (ao (aK jc (av 2) (wC (.int 1))) aJ)))) (av 2)))
  j4)
def jw:W Fl:=(a8 (b7 4 (bu (aM aj 0 0 (cu 0 (ao (av 2) aJ)))))
  j5)
theorem pk:∀ls p4,ls.length=4->iq ls p4->jw (ls++List.replicate 2 .un) (bS ls p4):=by
 rintro ls p4 - ⟨a,xs,shape,k,n,rfl,hx,n2,n3,k0,k1,h⟩;have IV:∀(ys:List D)(i j:Int)(Z:Ev),eV ys->0<=i->i<n->0<=j->j<n->i≠j->.own a ys∈Z->bS [.own a xs,.d (.int shape),.d (.int n),.d (.int k)] p4 (.rt (.d (.tup [.int i,.int j]))) Z:=by intro ys i j Z hy i0 i1 j0 j1 hij hm;have:=h i.toNat j.toNat ys hy xL xL xL;rw[Int.toNat_of_nonneg i0,Int.toNat_of_nonneg j0]at this;exact⟨_,bC hm (aI (aI (aI bg))),this⟩
 unfold jw;walk_at "w";refine⟨a,xs,n,rfl,hx,xL,xL,λr ys hy r0 r1=>⟨ys,rfl,?_⟩⟩;unfold j5;walk_at "w";refine⟨a,ys,n-1,rfl,hy,xL,xL,λs zs hz s0 s1=>⟨zs,rfl,?_⟩⟩;walk_at "w";refine⟨xL,?_⟩;have e1:=M5 (r+1+s) (b:=n) xL;have e2:=M5 k (b:=n) xL;have e3:=Int.fdiv_eq_ediv_of_nonneg (n:Int) (b:=2) xL;have e4:=M5 (k+(n:Int) / 2) (b:=n) xL;have e5:=M5 k (b:=2) xL;have e6:=M5 ((r+1+s) % (n:Int)) (b:=(n:Int)-1) xL;rw[e1];have o0:=N7 (r+1+s) (b:=n) xL;have o1:=N4 (r+1+s) (b:=n) xL
 have o2:(r+1+s) % (n:Int)≠r:=λz=>by
  by_cases q:r+1+s<n
  . rw[Int.emod_eq_of_lt xL q]at z;omega
  .
   have:(r+1+s) % (n:Int)=r+1+s-n:=by rw[<- Int.sub_emod_right,Int.emod_eq_of_lt xL xL]
   omega
 unfold j4;walk_at "w";split
 .
  rw[e2,e3,e4];refine⟨xL,x_,x_,xL,x_,IV zs _ _ _ hz (N7 _ xL) (N4 _ xL) (N7 _ xL) (N4 _ xL) (λz=>?_) v6⟩;have h1:(k+(n:Int) / 2-k) % n=0:=Int.emod_eq_emod_iff_emod_sub_eq_zero.mp z.symm;have e9:k+(n:Int) / 2-k=n / 2:=by omega
  rw[e9,Int.emod_eq_of_lt xL xL]at h1;omega
 .
  unfold j3;walk_at "w";split
  .
   rw[e5];have m0:=Int.emod_two_eq k;refine⟨x_,bA xL,bA xL,x_,bA xL,bA xL,x_,?_⟩;rcases m0 with m0|m0
   . rw[m0];exact IV zs _ _ _ hz xL xL xL xL xL v6
   . rw[m0];exact IV zs _ _ _ hz xL xL xL xL xL v6
  .
   unfold j2;walk_at "w";split
   . rw[e6];have p0:=N7 ((r+1+s) % (n:Int)) (b:=(n:Int)-1) xL;have p1:=N4 ((r+1+s) % (n:Int)) (b:=(n:Int)-1) xL;exact⟨xL,x_,IV zs _ _ _ hz xL xL xL xL xL v6⟩
   . unfold jZ;walk_at "w";exact⟨x_,IV zs _ _ _ hz xL xL xL xL (NH o2) v6⟩
structure Drawn (most count:Nat) (R:bO):Prop where
 ok:R.Ok
 hi:R.n<=most
 few:R.asks.length<=count
 nms:(∀a∈R.asks,sE a.nm)/\(R.asks.map (·.nm)).Nodup
 tt:∀a∈R.asks,RB 60 a.size
def ir:FS:=λls p4=>∃(ns:List Int)(at_ most count:Nat),ls=[.d (.lst (ns.map .int)),.d (.int at_),.d (.int most),.d (.int count)]/\at_<=90/\2<=most/\most<=12/\count<=20 /\
 ∀R:bO,Drawn most count R->p4 (.d (dW R)) ls
def gy:W Fl:=(a8 (wj [13,14] (aM iq 0 4 (cu 4 (ao (av 8) (ao (av 5) (ao (av 12) aJ))))))
  (m9 (FC 11 (dR (ao (aK bI (av 9) (av 12)) (ao (av 13) (ao (av 14) (ao (bu (aM bK 0 4 (cu 4 (ao (wC (.int 0)) (ao (aK bI (av 7) (wC (.int 1))) aJ))))) aJ))))))))
def j6:W Fl:=(dj (dR (ao (av 10) (ao (av 11) aJ))))
def j7:W Fl:=(a8 (Bg (pX (av 6)) (cw 12) gy)
  j6)
def j8:W Fl:=(a8 (b7 11 (jb aJ))
  j7)
def j9:W Fl:=(a8 (b7 4 (d3 bT (ao (av 0) (ao (bu (aK bj (av 1) (wC (.int 2)))) aJ))))
  j8)
def ka:W Fl:=(a8 (b7 10 (bu (d3 gw (ao (d3 bT (ao (av 0) (ao (bu (aK bj (av 1) (wC (.int 1)))) aJ))) (ao (av 5) (ao (aK bI (av 7) (wC (.int 0))) aJ))))))
  j9)
def kb:W Fl:=(a8 (b7 9 (bu (aM gu 0 4 (cu 4 (ao (av 6) aJ)))))
  ka)
def kc:W Fl:=(a8 (b7 8 (bu (aM aj 0 4 (cu 4 (ao (wC (.int 6)) aJ)))))
  kb)
def ke:W Fl:=(a8 (b7 7 (bu (jb (ao (bu (aM aj 0 4 (cu 4 (ao (wC (.int 5)) aJ)))) (ao (bu (aM aj 0 4 (cu 4 (ao (wC (.int 5)) aJ)))) aJ)))))
  kc)
def kf:W Fl:=(a8 (b7 6 (bu (aM aj 0 4 (cu 4 (ao (bu (aK bj (av 3) (wC (.int 1)))) aJ)))))
  ke)
def kg:W Fl:=(a8 (b7 5 (bu (aK bj (wC (.int 2)) (aM aj 0 4 (cu 4 (ao (aK jc (av 2) (wC (.int 1))) aJ))))))
  kf)
def jx:W Fl:=(a8 (b7 4 (d3 bT (ao (av 0) (ao (av 1) aJ))))
  kg)
theorem xY{S a1 m3 c3 rms:D}{b c:Addr}{n shape kind:Nat}{zs:List Str}{p4:Fl->Ev->Prop}(hn:2<=n)(hn2:n<=12)(hk:kind<5)(k0:Nat)(hzl:zs.length<=20)(hz:∀z∈zs,sE z)(xs:List D)(hx:eV xs)(x13 x14:L)
  (IV:∀(as:List KD)(ys:List D)(x12 x13 x14:L),(∀a∈as,qp n a/\RB 60 a.size)->as.map (·.nm)=zs->p4 .nx [.d S,.d a1,.d m3,.d c3,.own b ys,.d (.int n),.d (.int (zs.length:Int)),.d (.lst [.int k0,.int kind]),.d (.int shape),.d (.lst (zs.map .str)),.d rms,.own c (as.map fU),x12,x13,x14]) :
  hW (cw 12) gy ((List.range zs.length).map λ(i:Nat)=>D.int (i:Int)) [.d S,.d a1,.d m3,.d c3,.own b xs,.d (.int n),.d (.int (zs.length:Int)),.d (.lst [.int k0,.int kind]),.d (.int shape),.d (.lst (zs.map .str)),.d rms,.own c [],.un,x13,x14] p4:=by
 refine lV _ (λj Z=>∃(as:List KD)(ys:List D)(x12 x13 x14:L),Z=[.d S,.d a1,.d m3,.d c3,.own b ys,.d (.int n),.d (.int (zs.length:Int)),.d (.lst [.int k0,.int kind]),.d (.int shape),.d (.lst (zs.map .str)),.d rms,.own c (as.map fU),x12,x13,x14]/\eV ys/\(∀a∈as,qp n a/\RB 60 a.size)/\as.map (·.nm)=zs.take j) _ ⟨[],xs,_,_,_,rfl,hx,λa ha=>by simp at ha,rfl⟩ ?_ ?_
 .
  rintro j x Z hj ⟨as,ys,x12,x13,x14,rfl,hy,ha,hn'⟩ Q h1 h2 h3 h4;have hj':j<zs.length:=by have:=(Mx.mp hj).1;simpa using this
  have ex:x=.int (j:Int):=by rw[Nc,List.getElem?_range hj']at hj;exact(MZ hj).symm
  subst ex;unfold gy;walk_at "w";refine⟨b,ys,shape,j,n,rfl,hy,hn,xL,xL,xL,λi k ws hw i1 k1 hik=>⟨ws,rfl,?_⟩⟩;walk_at "w";refine⟨.str zs[j],Ck hj',?_⟩;refine⟨b,ws,0,kind,rfl,hw,x_,x_,xL,xL,λq vs hv q0 _ qb=>⟨vs,rfl,?_⟩⟩;walk_at "w";have kz:as.length=j:=by have:=Os List.length hn';rw[MD,M8]at this;omega
  refine⟨x_,by rw[kz];exact Mz hj' (MH hzl x_),h1 _ ⟨as++[⟨zs[j],i,k,q⟩],vs,_,_,_,by rw[List.map_append];rfl,hv,λa hm=>?_,?_⟩⟩
  .
   rcases ML.mp hm with hm|hm
   . exact ha a hm
   . rw[Nk.mp hm];exact⟨⟨i1,k1,hik,q0,z0 qb,(hz _ (Oh hj')).ok⟩,qb⟩
  . rw[List.map_append,hn',List.take_succ,MG hj'];rfl
 . rintro Z ⟨as,ys,x12,x13,x14,rfl,hy,ha,hn'⟩;rw[MD,List.length_range,NZ (ME _)]at hn';exact IV as ys x12 x13 x14 ha hn'
theorem pw:∀ls p4,ls.length=4->ir ls p4->jx (ls++List.replicate 11 .un) (bS ls p4):=by
 rintro ls p4 - ⟨ns,at_,most,count,rfl,ha,m2,m12,c20,h⟩;unfold jx;walk_at "w";refine⟨ns,at_,rfl,xL,xL,λb xs hx=>?_⟩;unfold kg;walk_at "w";refine⟨b,xs,(most:Int)-1,rfl,hx,xL,xL,λr ys hy r0 r1=>⟨ys,rfl,?_⟩⟩;unfold kf;walk_at "w";refine⟨b,ys,(count:Int)+1,rfl,hy,xL,xL,λs zs hz s0 s1=>⟨zs,rfl,?_⟩⟩;unfold ke;walk_at "w";refine⟨b,zs,5,rfl,hz,x_,x_,λk1 ws hw k10 k11=>⟨ws,rfl,?_⟩⟩;walk_at "w";refine⟨b,ws,5,rfl,hw,x_,x_,λk2 vs hv k20 k21=>⟨vs,rfl,?_⟩⟩;walk_at "w";refine⟨x_,λkk=>?_⟩;unfold kc;walk_at "w";refine⟨b,vs,6,rfl,hv,x_,x_,λsh us hu sh0 sh1=>⟨us,rfl,?_⟩⟩;unfold kb;walk_at "w";obtain⟨many,rfl⟩:=MI s0;obtain⟨pl,epl⟩:∃pl:Nat,2+r=(pl:Int):=MI xL;obtain⟨sh',rfl⟩:=MI sh0;obtain⟨k1',rfl⟩:=MI k10;obtain⟨k2',rfl⟩:=MI k20;rw[epl];refine⟨b,us,many,rfl,hu,xL,λnms c ts ht hnl hnm hnd=>⟨ts,rfl,?_⟩⟩;unfold ka;walk_at "w";refine⟨ns,at_+1,rfl,xL,xL,λb2 xs2 hx2=>?_⟩;refine⟨b2,xs2,pl,k1',rfl,hx2,xL,xL,xL,xL,λqs c2 ys2 hy2 hql hq=>?_⟩;unfold j9;walk_at "w";refine⟨ns,at_+2,rfl,xL,xL,λb3 xs3 hx3=>?_⟩;unfold j8;walk_at "w";refine⟨x_,λc3=>?_⟩;unfold j7;walk_at "w";refine⟨⟨xL,xL⟩,?_⟩;rw[o4,Int.toNat_natCast,<- hnl];refine xY (n:=pl) xL xL xL k1' xL hnm xs3 hx3 _ _ λas ys' x12 x13 x14 hao han=>?_;walk_at "w";unfold j6;walk_at "w";refine⟨x_,_,aI (aI (aI (aI bg))),h ⟨qs,as⟩ ?_⟩;have hal:as.length=nms.length:=by rw[<- han,MD]
 refine⟨⟨?_,?_,?_,hq,?_,GA (λa ha=>(hao a ha).2) (by show as.length<=20;omega)⟩,?_,?_,⟨?_,?_⟩,λa ha=>(hao a ha).2⟩
 . show 2<=qs.length;omega
 . show qs.length<=12;omega
 . show as.length<=20;omega
 . show ∀a∈as,qp qs.length a;rw[hql];exact λa ha=>(hao a ha).1
 . show qs.length<=most;omega
 . show as.length<=count;omega
 . intro a ha;exact hnm _ (by rw[<- han];exact List.mem_map_of_mem ha)
 . show(as.map (·.nm)).Nodup;rw[han];exact hnd
def bU:FS:=λls p4=>∃(a:Addr)(xs:List D),ls=[.own a xs]/\eV xs/\∀(d:D)(ys:List D),eV ys->Hj d->p4 (.d d) [.own a ys]
def eQ:W Fl:=(dj (aK bI (aK bj (av 1) (jb (ao (dR (ao (wC .non) (ao (wC (.int 1)) aJ))) (ao (dR (ao (wC (.str "1")) (ao (wC (.int 1)) aJ))) (ao (rT 0) (ao (dR (ao (dR (ao (wC (.int 1)) (ao (wC (.int 1)) aJ))) (ao (wC (.int 1)) aJ))) aJ)))))) (aM aj 0 0 (cu 0 (ao (wC (.int 17)) aJ)))))
def dF:W Fl:=(a8 (b7 1 (bu (jb (ao (dR (ao (wC (.int 0)) (ao (wC (.int 2)) aJ))) (ao (dR (ao (wC (.int 2)) (ao (wC (.int 4)) aJ))) (ao (dR (ao (wC (.int 1)) (ao (wC (.int 0)) aJ))) (ao (dR (ao (wC (.int 1)) (ao (JG oM (wC (.int 2))) aJ))) (ao (dR (ao (JG oM (wC (.int 1))) (ao (JG oM (wC (.int 2))) aJ))) (ao (dR (ao (wC (.bl true)) (ao (wC (.int 1)) aJ))) (ao (dR (ao (wC (.int 1)) (ao (wC (.bl true)) aJ))) (ao (dR (ao (wC (.int 1)) aJ)) (ao (dR (ao (wC (.int 1)) (ao (wC (.int 1)) (ao (wC (.int 1)) aJ)))) (ao (bu (jb (ao (wC (.int 1)) (ao (wC (.int 1)) aJ)))) (ao (wC (.int 1)) (ao (wC .non) (ao (wC (.str "1")) aJ))))))))))))))))
  eQ)
noncomputable def GZ:List D:=[.tup [.int 0,.int 2],.tup [.int 2,.int 4],.tup [.int 1,.int 0],.tup [.int 1,.int (-2)],.tup [.int (-1),.int (-2)],.tup [.bl true,.int 1],.tup [.int 1,.bl true],.tup [.int 1],.tup [.int 1,.int 1,.int 1],.lst [.int 1,.int 1],.int 1,.non,.str "1",.tup [.non,.int 1],.tup [.str "1",.int 1],.dct 0,.tup [.tup [.int 1,.int 1],.int 1]]
theorem CS:∀d∈GZ,Hj d:=λd hd=>by
 have key:(GZ.all λd=>!nq d && K0 3 2000 d)=true:=by decide +kernel
 have:=Nq.mp key d hd;rw[MR,Bool.not_eq_true']at this;exact⟨this.1,dA this.2⟩
theorem ki:∀ls p4,ls.length=1->bU ls p4->dF (ls++List.replicate 1 .un) (bS ls p4):=by rintro ls p4 - ⟨a,xs,rfl,hx,h⟩;unfold dF;walk_at "w";refine⟨x_,x_,x_,x_,x_,x_,x_,x_,x_,x_,λ_=>⟨x_,λ_=>?_⟩⟩;unfold eQ;walk_at "w";refine⟨x_,x_,x_,x_,x_,λ_=>⟨x_,λ_=>⟨a,xs,17,rfl,hx,x_,x_,λr ys hy r0 r1=>⟨ys,rfl,?_⟩⟩⟩⟩;walk_at "w";obtain⟨v,ev,hv⟩:=mK CS r0 (by simpa[GZ]using r1);exact⟨v,ev,_,bC v6 bg,h _ _ hy hv⟩
def dG:FS:=λls p4=>∃(a:Addr)(xs:List D),ls=[.own a xs]/\eV xs/\∀(d:D)(ys:List D),eV ys->KY d=false->WV 3 2000 d->p4 (.d d) [.own a ys]
def eD:W Fl:=(a8 (JH (aY (aK kF (aM aj 0 0 (cu 0 (ao (wC (.int 3)) aJ))) (wC (.int 0)))) (dj (aK bI (jb (ao (dR (ao (wC (.int 0)) (ao (wC (.int 1)) aJ))) (ao (dR (ao (JG oM (wC (.int 1))) (ao (wC (.int 1)) aJ))) (ao (dR (ao (aK jc (aK jc (wC (.int 0)) (wC (.int 1))) (aM aj 0 0 (cu 0 (ao (aK p5 (wC (.int 10)) (wC (.int 9))) aJ)))) (ao (wC (.int 1)) aJ))) aJ)))) (aM aj 0 0 (cu 0 (ao (wC (.int 3)) aJ))))) bH)
  (dj (aM bU 0 0 (cu 0 aJ))))
noncomputable def Mi(k:Int):List D:=[.tup [.int 0,.int 1],.tup [.int (-1),.int 1],.tup [.int (0-1-k),.int 1]]
theorem Fk{k:Int}(k0:0<=k)(k1:k<10^Int.toNat 9):∀d∈Mi k,KY d=false/\WV 3 2000 d:=λd hd=>by
 have k1:k<1000000000:=k1;have big:(2:Nat)^60=1152921504606846976:=by decide
 simp only[Mi,MC,MS,Oi]at hd;rcases hd with rfl|rfl|rfl
 . exact⟨y_,dA y_⟩
 . exact⟨y_,dA y_⟩
 .
  refine⟨by show(_ && decide (0<0-1-k))=false;rw[MP (p:=0<0-1-k) xL,NN],?_⟩
  exact(WV.two (n:=0) (s:=602) (m:=3) (t:=2000) (ds:=[.int (0-1-k),.int 1]) (λd hd=>by
   simp only[MC,MS,Oi]at hd;rcases hd with rfl|rfl
   . exact cz xL
   .
    exact cz x_) x_ (by show(602+2)*2+3<=2000;decide)).1
theorem kZ:∀ls p4,ls.length=1->dG ls p4->eD (ls++List.replicate 0 .un) (bS ls p4):=by
 rintro ls p4 - ⟨a,xs,rfl,hx,h⟩;unfold eD;walk_at "w";refine⟨a,xs,3,rfl,hx,x_,x_,λr ys hy r0 r1=>⟨ys,rfl,?_⟩⟩;walk_at "w";split
 . refine⟨x_,x_,x_,x_,x_,a,ys,10^Int.toNat 9,rfl,hy,x_,x_,λk zs hz k0 k1=>⟨zs,rfl,?_⟩⟩;walk_at "w";refine⟨x_,x_,λ_=>⟨a,zs,3,rfl,hz,x_,x_,λj us hu j0 j1=>⟨us,rfl,?_⟩⟩⟩;walk_at "w";obtain⟨v,ev,hv⟩:=mK (Fk k0 k1) j0 (by simpa[Mi]using j1);exact⟨v,ev,_,bC v6 bg,h _ _ hu hv.1 hv.2⟩
 . refine⟨a,ys,rfl,hy,λd zs hz hd=>⟨zs,rfl,?_⟩⟩;walk_at "w";exact⟨_,bC v6 bg,h _ _ hz (GO hd.no) hd.wv⟩
def dH:FS:=λls p4=>∃(a:Addr)(xs:List D),ls=[.own a xs]/\eV xs/\∀(d:D)(ys:List D),eV ys->Af d->p4 (.d d) [.own a ys]
def fC:W Fl:=(dj (aK bI (aK bj (av 3) (jb (ao (bu (jb (ao (av 2) aJ))) (ao (dR (ao (av 2) aJ)) (ao (rT 0) (ao (bu (aK bj (wC (.str "{")) (av 2))) (ao (wC (.str "`")) aJ))))))) (aM aj 0 0 (cu 0 (ao (wC (.int 16)) aJ)))))
def fE:W Fl:=(a8 (b7 3 (bu (jb (ao (wC (.str "")) (ao (bu (aK t9 (av 2) (wC (.int 9)))) (ao (bu (aK bj (av 2) (wC (.str "A")))) (ao (bu (aK bj (av 2) (wC (.str " ")))) (ao (wC (.str "1")) (ao (wC (.str "-")) (ao (bu (aK bj (av 2) (wC (.str "\n")))) (ao (bu (xk (av 2))) (ao (wC .non) (ao (wC (.int 1)) (ao (wC (.bl true)) aJ))))))))))))))
  fC)
def fF:W Fl:=(a8 (b7 2 (aK bI (av 1) (aM aj 0 0 (cu 0 (ao (wC (.int 26)) aJ)))))
  fE)
def eE:W Fl:=(a8 (b7 1 (wC (.str "abcdefghijklmnopqrstuvwxyz")))
  fF)
theorem G0:∀ k < 26,(Str.ofString "abcdefghijklmnopqrstuvwxyz").cps.toList[k]?=some (97+k):=by decide +kernel
noncomputable def Mj(z:Str):List D:=[.str "",.str (Gr z (Int.toNat 9)),.str (z++Str.ofString "A"),.str (z++Str.ofString " "),.str "1",.str "-",.str (z++Str.ofString "\n"),.str (Txt.upper z),.non,.int 1,.bl true,.lst [.str z],.tup [.str z],.dct 0,.str (Str.ofString "{"++z),.str "`"]
theorem Fm:∀k<26,(Mj ⟨#[97+k]⟩).all K1=true:=by decide +kernel
theorem k6:∀ls p4,ls.length=1->dH ls p4->eE (ls++List.replicate 3 .un) (bS ls p4):=by
 rintro ls p4 - ⟨a,xs,rfl,hx,h⟩;unfold eE;walk_at "w";unfold fF;walk_at "w";refine⟨a,xs,26,rfl,hx,x_,x_,λr ys hy r0 r1=>⟨ys,rfl,?_⟩⟩;walk_at "w";obtain⟨k,rfl⟩:=MI r0;have hk:k<26:=by omega
 refine⟨y_,97+k,fW (G0 k hk),?_⟩;unfold fE;walk_at "w";refine⟨x_,x_,ME 1,(by decide:1<=1000),?_,?_,?_,(by decide:1<=5592405),x_,λ_=>?_⟩
 . show 1+(Str.ofString "A").length<=_; decide +kernel
 . show 1+(Str.ofString " ").length<=_; decide +kernel
 . show 1+(Str.ofString "\n").length<=_; decide +kernel
 unfold fC;walk_at "w";refine⟨x_,λ_=>⟨x_,?_,x_,λ_=>⟨x_,λ_=>⟨a,ys,16,rfl,hy,x_,x_,λj zs hz j0 j1=>⟨zs,rfl,?_⟩⟩⟩⟩⟩
 . show(Str.ofString "{").length+1<=_; decide +kernel
 walk_at "w";obtain⟨v,ev,hv⟩:=mK (Nq.mp (Fm k hk)) j0 (by simpa[Mj]using j1);exact⟨v,ev,_,bC v6 bg,h _ _ hz (Af.of hv)⟩
def bV:FS:=λls p4=>∃(a:Addr)(xs:List D)(n:Nat),ls=[.own a xs,.d (.int (n:Int))]/\eV xs/\0<n/\n<=12/\∀(d:D)(ys:List D),eV ys->gj d (n:Int)=false->WV 1 1300 d->p4 (.d d) [.own a ys,.d (.int (n:Int))]
def eR:W Fl:=(dj (aK bI (av 2) (aM aj 0 0 (cu 0 (ao (wC (.int 10)) aJ)))))
def dJ:W Fl:=(a8 (b7 2 (bu (jb (ao (JG oM (wC (.int 1))) (ao (av 1) (ao (bu (aK bj (av 1) (aM aj 0 0 (cu 0 (ao (aK p5 (wC (.int 10)) (wC (.int 9))) aJ))))) (ao (aK jc (wC (.int 0)) (av 1)) (ao (wC (.bl true)) (ao (wC (.bl false)) (ao (wC .non) (ao (wC (.str "0")) (ao (dR (ao (wC (.int 0)) aJ)) (ao (bu (jb (ao (wC (.int 0)) aJ))) aJ)))))))))))))
  eR)
noncomputable def Ml(n:Nat)(k:Int):List D:=[.int (-1),.int (n:Int),.int ((n:Int)+k),.int (0-(n:Int)),.bl true,.bl false,.non,.str "0",.tup [.int 0],.lst [.int 0]]
theorem Fn{n:Nat}{k:Int}(n0:0<n)(n1:n<=12)(k0:0<=k)(k1:k<10^Int.toNat 9):∀d∈Ml n k,gj d (n:Int)=false/\WV 1 1300 d:=λd hd=>by
 have k1:k<1000000000:=k1;have big:(2:Nat)^60=1152921504606846976:=by decide
 have wi:∀i:Int,i.natAbs<2^60->WV 1 1300 (.int i):=λi h=>(cz h).mono x_ x_;simp only[Ml,MC,MS,Oi]at hd;rcases hd with rfl|rfl|rfl|rfl|rfl|rfl|rfl|rfl|rfl|rfl
 . exact⟨rfl,wi _ x_⟩
 . exact⟨MP xL,wi _ xL⟩
 . exact⟨MP xL,wi _ xL⟩
 . exact⟨MP xL,wi _ xL⟩
 . exact⟨rfl,dA y_⟩
 . exact⟨rfl,dA y_⟩
 . exact⟨rfl,dA y_⟩
 . exact⟨rfl,dA y_⟩
 . exact⟨rfl,dA y_⟩
 . exact⟨rfl,dA y_⟩
theorem kj:∀ls p4,ls.length=2->bV ls p4->dJ (ls++List.replicate 1 .un) (bS ls p4):=by rintro ls p4 - ⟨a,xs,n,rfl,hx,n0,n1,h⟩;unfold dJ;walk_at "w";refine⟨x_,x_,x_,a,xs,10^Int.toNat 9,rfl,hx,x_,x_,λk ys hy k0 k1=>⟨ys,rfl,?_⟩⟩;walk_at "w";refine⟨x_,x_,λ_=>⟨x_,λ_=>?_⟩⟩;unfold eR;walk_at "w";refine⟨a,ys,10,rfl,hy,x_,x_,λr zs hz r0 r1=>⟨zs,rfl,?_⟩⟩;walk_at "w";obtain⟨v,ev,hv⟩:=mK (Fn n0 n1 k0 k1) r0 (by simpa[Ml]using r1);exact⟨v,ev,_,bC v6 (aI bg),h _ _ hz hv.1 hv.2⟩
structure Fo (R:bO) (k:Nat) (d:D):Prop where
 a:qV d
 wv:WV 4 9000 d
 no:u9 (R.n:Int) d=false∨lD d∈(R.asks.take k).map (·.nm)
def eF:FS:=λls p4=>∃(a:Addr)(xs:List D)(R:bO)(k:Nat),ls=[.own a xs,.d (dW R),.d (.int (k:Int))]/\eV xs/\Drawn 11 18 R/\k<=R.asks.length/\∀(d:D)(ys:List D),eV ys->Fo R k d->p4 (.d d) [.own a ys,.d (dW R),.d (.int (k:Int))]
def fG:W Fl:=(dj (aK bI (av 10) (aM aj 0 0 (cu 0 (ao (wC (.int 12)) aJ)))))
def fH:W Fl:=(a8 (b7 10 (bu (jb (ao (wC .non) (ao (bu (ba jI (ao (av 9) aJ))) (ao (bu (y1 (av 9) none (some (wC (.int 3))))) (ao (bu (aK tQ (av 9) (dR (ao (wC (.int 0)) aJ)))) (ao (dR aJ) (ao (av 4) (ao (rT 0) (ao (wC (.int 4)) (ao (wC (.bl true)) (ao (bu (jb (ao (av 9) aJ))) (ao (dR (ao (av 9) aJ)) (ao (Ce 4 9) aJ)))))))))))))))
  fG)
def fJ:W Fl:=(a8 (b7 9 (dR (ao (av 4) (ao (av 5) (ao (av 6) (ao (av 7) aJ))))))
  fH)
def fK:W Fl:=(a8 (JH (aY (aK kF (av 8) (wC (.int 6)))) (dj (dR (ao (av 4) (ao (av 5) (ao (av 6) (ao (bu (aM bU 0 0 (cu 0 aJ))) aJ)))))) bH)
  fJ)
def fM:W Fl:=(a8 (JH (aY (aK kF (av 8) (wC (.int 5)))) (dj (dR (ao (av 4) (ao (av 5) (ao (av 6) (ao (dR (ao (JG oM (wC (.int 1))) (ao (bu (aK bj (wC (.int 1)) (aM aj 0 0 (cu 0 (ao (wC (.int 12)) aJ))))) aJ))) aJ)))))) bH)
  fK)
def gI:W Fl:=(a8 (JH (aY (aK kF (av 8) (wC (.int 4)))) (dj (dR (ao (av 4) (ao (av 5) (ao (bu (aM bV 0 0 (cu 0 (ao (av 3) aJ)))) (ao (av 7) aJ)))))) bH)
  fM)
def gJ:W Fl:=(a8 (JH (aY (aK kF (av 8) (wC (.int 3)))) (dj (dR (ao (av 4) (ao (bu (aM bV 0 0 (cu 0 (ao (av 3) aJ)))) (ao (av 6) (ao (av 7) aJ)))))) bH)
  gI)
def dM:W Fl:=(a8 (JH (aY (aK kF (av 8) (wC (.int 2)))) (dj (dR (ao (av 4) (ao (av 5) (ao (av 5) (ao (av 7) aJ)))))) bH)
  gJ)
def gK:W Fl:=(a8 (JH (CZ (aY (aK kF (av 8) (wC (.int 1)))) (aY (aK Bh (av 2) (wC (.int 0))))) (dj (dR (ao (aK bI (aK bI (aK bI (av 1) (wC (.int 1))) (aM aj 0 0 (cu 0 (ao (av 2) aJ)))) (wC (.int 0))) (ao (av 5) (ao (av 6) (ao (av 7) aJ)))))) bH)
  dM)
def dN:W Fl:=(a8 (JH (aY (aK kF (av 8) (wC (.int 0)))) (dj (dR (ao (bu (aM dH 0 0 (cu 0 aJ))) (ao (av 5) (ao (av 6) (ao (av 7) aJ)))))) bH)
  gK)
def gL:W Fl:=(a8 (b7 8 (bu (aM aj 0 0 (cu 0 (ao (wC (.int 9)) aJ)))))
  dN)
def gM:W Fl:=(a8 (b7 7 (bu (aM bK 0 0 (cu 0 (ao (wC (.int 0)) (ao (wC (.int 3)) aJ))))))
  gL)
def gN:W Fl:=(a8 (b7 6 (aK fY (aK bj (aK bj (av 5) (wC (.int 1))) (aM aj 0 0 (cu 0 (ao (aK jc (av 3) (wC (.int 1))) aJ)))) (av 3)))
  gM)
def gO:W Fl:=(a8 (b7 5 (bu (aM aj 0 0 (cu 0 (ao (av 3) aJ)))))
  gN)
def gQ:W Fl:=(a8 (b7 4 (wC (.str "zzzzzzzz")))
  gO)
def fj:W Fl:=(a8 (b7 3 (bu (ba d4 (ao (aK bI (av 1) (wC (.int 0))) aJ))))
  gQ)
structure Mm (R:bO) (k:Nat) (zz:Str) (one other:Int) (q:Rat):Prop where
 D:Drawn 11 18 R
 k:k<=R.asks.length
 z:As 8 zz
 o0:0<=one
 o1:one<(R.n:Int)
 p0:0<=other
 p1:other<(R.n:Int)
 q0:0<=q
 q1:RB 60 q
theorem AH{n:Nat}{x:Str}(h:As n x)(hn:n<1000000):AD (.str x):=λy e=>by
 cases e;refine⟨?_,?_⟩
 . rw[Array.all_eq_true_iff_forall_mem];exact λc hc=>Nn (h.asc c (Array.mem_toList_iff.mpr hc))
 . exact Nd h.len hn
theorem eG{d:D}(h:∀xs,d≠.tup xs):qV d:=λxs e=>absurd e (h xs)
theorem c4{x:D}{r:List D}(h:AD x):qV (.tup (x::r)):=λxs e a ha=>by cases e;cases ha;exact h
theorem Fp{d:D}(h:∀x,d≠.str x):AD d:=λx e=>absurd e (h x)
theorem jy{x b c s:D}(h1:WV 3 2000 x)(h2:WV 3 2000 b)(h3:WV 3 2000 c)(h4:WV 3 2000 s):WV 4 9000 (.tup [x,b,c,s]):=(WV.two (n:=3) (s:=2000) (m:=4) (t:=9000) (λd hd=>by
 simp only[MC,MS,Oi]at hd
 rcases hd with rfl|rfl|rfl|rfl<;>assumption) x_ (by show(2000+2)*4+3<=9000;decide)).1
theorem Mm.v1{R:bO}{k:Nat}{zz:Str}{one other:Int}{q:Rat}(F:Mm R k zz one other q):WV 0 602 (.int one):=by
 have:=F.o0;have:=F.o1;have:R.n<=12:=F.D.ok.hi;have big:(2:Nat)^60=1152921504606846976:=by decide
 exact cz xL
theorem Mm.v2{R:bO}{k:Nat}{zz:Str}{one other:Int}{q:Rat}(F:Mm R k zz one other q):WV 0 602 (.int other):=by
 have:=F.p0;have:=F.p1;have:R.n<=12:=F.D.ok.hi;have big:(2:Nat)^60=1152921504606846976:=by decide
 exact cz xL
theorem Mm.w1{R:bO}{k:Nat}{zz:Str}{one other:Int}{q:Rat}(F:Mm R k zz one other q):WV 3 2000 (.int one):=F.v1.mono x_ x_
theorem Mm.w2{R:bO}{k:Nat}{zz:Str}{one other:Int}{q:Rat}(F:Mm R k zz one other q):WV 3 2000 (.int other):=F.v2.mono x_ x_
theorem Mm.wz{R:bO}{k:Nat}{zz:Str}{one other:Int}{q:Rat}(F:Mm R k zz one other q):WV 3 2000 (.str zz):=(o9 F.z).mono x_ x_
theorem Mm.wq{R:bO}{k:Nat}{zz:Str}{one other:Int}{q:Rat}(F:Mm R k zz one other q):WV 3 2000 (JX q):=(va F.q1).mono x_ x_
theorem Mm.az{R:bO}{k:Nat}{zz:Str}{one other:Int}{q:Rat}(F:Mm R k zz one other q):AD (.str zz):=AH F.z x_
noncomputable def Mn(zz:Str)(one other:Int)(q:Rat):List D:=[.non,.lst [.str zz,.int one,.int other,JX q],.tup [.str zz,.int one,.int other],.tup [.str zz,.int one,.int other,JX q,.int 0],.tup [],.str zz,.dct 0,.int 4,.bl true,.lst [.tup [.str zz,.int one,.int other,JX q]],.tup [.tup [.str zz,.int one,.int other,JX q]],.dk [.inr zz] [.tup [.str zz,.int one,.int other,JX q]]]
theorem Fq{R:bO}{k:Nat}{zz:Str}{one other:Int}{q:Rat}(F:Mm R k zz one other q):∀d∈Mn zz one other q,Fo R k d:=λd hd=>by
 have c3:∀d∈[D.str zz,.int one,.int other,JX q,.int 0],WV 3 1300 d:=λd hd=>by
  simp only[MC,MS,Oi]at hd;rcases hd with rfl|rfl|rfl|rfl|rfl
  . exact(o9 F.z).mono x_ x_
  . exact F.v1.mono x_ x_
  . exact F.v2.mono x_ x_
  . exact(va F.q1).mono x_ x_
  . exact dA y_
 have c1:∀d∈[D.str zz,.int one,.int other,JX q],WV 1 1300 d:=λd hd=>by
  simp only[MC,MS,Oi]at hd;rcases hd with rfl|rfl|rfl|rfl
  . exact(o9 F.z).mono x_ x_
  . exact F.v1.mono x_ x_
  . exact F.v2.mono x_ x_
  . exact va F.q1
 have W:WV 2 5300 (.tup [.str zz,.int one,.int other,JX q]):=(WV.two c1 x_ v6).1;have W1:∀d∈[D.tup [.str zz,.int one,.int other,JX q]],WV 2 5300 d:=λd hd=>by rw[Nk.mp hd];exact W
 have W2:=WV.two (m:=4) (t:=9000) W1 x_ v6;simp only[Mn,MC,MS,Oi]at hd;rcases hd with rfl|rfl|rfl|rfl|rfl|rfl|rfl|rfl|rfl|rfl|rfl|rfl
 . exact⟨eG λ_ z=>(by cases z),dA y_,.inl rfl⟩
 . exact⟨eG λ_ z=>(by cases z),(WV.two c1 x_ v6).2,.inl rfl⟩
 . exact⟨c4 F.az,(WV.two (λd hd=>c3 d (Nu (i:=3) hd)) x_ v6).1,.inl rfl⟩
 . exact⟨c4 F.az,(WV.two c3 x_ v6).1,.inl rfl⟩
 . exact⟨λxs e a ha=>(by cases e;cases ha),dA y_,.inl rfl⟩
 . exact⟨eG λ_ z=>(by cases z),(o9 F.z).mono x_ x_,.inl rfl⟩
 . exact⟨eG λ_ z=>(by cases z),dA y_,.inl rfl⟩
 . exact⟨eG λ_ z=>(by cases z),dA y_,.inl rfl⟩
 . exact⟨eG λ_ z=>(by cases z),dA y_,.inl rfl⟩
 . exact⟨eG λ_ z=>(by cases z),W2.2,.inl rfl⟩
 . exact⟨c4 (Fp λ_ z=>by cases z),W2.1,.inl rfl⟩
 . refine⟨eG λ_ z=>(by cases z),?_,.inl rfl⟩;have ks:=(o9 F.z).len;refine WV.dk (r:=82) (k:=(.inr zz:IG)) ⟨(o9 F.z).sh,Nat.le_zero.mp (o9 F.z).dp,ks⟩ W x_ x_
theorem Hz{R:bO}{k:Nat}{zz:Str}{one other:Int}{q:Rat}(F:Mm R k zz one other q){a:Addr}{xs:List D}{way:Int}{Q:Fl->Ev->Prop}(hx:eV xs)(h:∀(d:D) (ys:List D) (Z:Ev),eV ys->Fo R k d->Q (.rt (.d d)) (.own a ys::.d (.tup [.lst (R.rooms.map JX),.lst (R.asks.map fU)])::.d (.int (k:Int))::Z)):dM [.own a xs,.d (.tup [.lst (R.rooms.map JX),.lst (R.asks.map fU)]),.d (.int (k:Int)),.d (.int (R.n:Int)),.d (.str zz),.d (.int one),.d (.int other),.d (JX q),.d (.int way),.un,.un] Q:=by
 have wz:=F.wz;have az:=F.az;have w1:=F.w1;have w2:=F.w2;have wq:=F.wq;unfold dM;walk_at "w";split
 . refine⟨x_,h _ _ _ hx ⟨c4 az,jy wz w1 w1 wq,.inl ?_⟩⟩;rw[sG,jg,Nn rfl,Bool.not_true,Nx,NN]
 unfold gJ;walk_at "w";split
 . have n0:2<=R.n:=F.D.ok.lo;refine⟨a,xs,R.n,rfl,hx,xL,F.D.ok.hi,λd ys hy hd hw=>⟨ys,rfl,x_,h _ _ _ hy ⟨c4 az,jy wz (hw.mono x_ x_) w2 wq,.inl ?_⟩⟩⟩;rw[sG,hd,Nx,NN,Nx]
 unfold gI;walk_at "w";split
 . have n0:2<=R.n:=F.D.ok.lo;refine⟨a,xs,R.n,rfl,hx,xL,F.D.ok.hi,λd ys hy hd hw=>⟨ys,rfl,x_,h _ _ _ hy ⟨c4 az,jy wz w1 (hw.mono x_ x_) wq,.inl ?_⟩⟩⟩;rw[sG,hd,NN,NN,Nx]
 unfold fM;walk_at "w";split
 .
  refine⟨a,xs,12,rfl,hx,x_,x_,λj ys hy j0 j1=>⟨ys,rfl,?_⟩⟩;walk_at "w";have big:(2:Nat)^60=1152921504606846976:=by decide
  refine⟨x_,x_,h _ _ _ hy ⟨c4 az,jy wz w1 w2 (WV.two (n:=0) (s:=602) (ds:=[.int (-1),.int (1+j)]) (λd hd=>?_) x_ v6).1,.inl ?_⟩⟩
  .
   simp only[MC,MS,Oi]at hd;rcases hd with rfl|rfl
   . exact cz x_
   . exact cz xL
  . rw[sG,show EU (.tup [.int (-1),.int (1+j)])=false from rfl,NN,NN]
 unfold fK;walk_at "w";split
 . refine⟨a,xs,rfl,hx,λd ys hy hd=>⟨ys,rfl,x_,h _ _ _ hy ⟨c4 az,jy wz w1 w2 hd.wv,.inl ?_⟩⟩⟩;rw[sG,hd.no,NN,Nx,Nx]
 unfold fJ;walk_at "w";unfold fH;walk_at "w";have ec:vn [D.str zz,D.int one,D.int other,JX q] none (some 3)=[D.str zz,D.int one,D.int other]:=rfl;rw[ec];refine⟨x_,λ_=>⟨x_,x_,List.cons_ne_nil _ _,List.cons_ne_nil _ _,x_,x_,x_,λ_=>⟨x_,x_,λ_=>?_⟩⟩⟩;unfold fG;walk_at "w";refine⟨a,xs,12,rfl,hx,x_,x_,λj ys hy j0 j1=>⟨ys,rfl,?_⟩⟩;walk_at "w";obtain⟨v,ev,hv⟩:=mK (Fq F) j0 (by simpa[Mn]using j1);exact⟨v,ev,h _ _ _ hy hv⟩
theorem ID{R:bO}{k:Nat}{zz:Str}{one other:Int}{q:Rat}(F:Mm R k zz one other q){a:Addr}{xs:List D}{way:Int}{Q:Fl->Ev->Prop}(hx:eV xs)(h:∀(d:D) (ys:List D) (Z:Ev),eV ys->Fo R k d->Q (.rt (.d d)) (.own a ys::.d (.tup [.lst (R.rooms.map JX),.lst (R.asks.map fU)])::.d (.int (k:Int))::Z)):dN [.own a xs,.d (.tup [.lst (R.rooms.map JX),.lst (R.asks.map fU)]),.d (.int (k:Int)),.d (.int (R.n:Int)),.d (.str zz),.d (.int one),.d (.int other),.d (JX q),.d (.int way),.un,.un] Q:=by
 have wz:=F.wz;have az:=F.az;have w1:=F.w1;have w2:=F.w2;have wq:=F.wq;unfold dN;walk_at "w";split
 . refine⟨a,xs,rfl,hx,λd ys hy hd=>⟨ys,rfl,x_,h _ _ _ hy ⟨c4 hd.asc,jy (hd.wv.mono x_ x_) w1 w2 wq,.inl ?_⟩⟩⟩;rw[sG,hd.no];rfl
 unfold gK;walk_at "w";split
 .
  split
  .
   rename_i k0;have hk:=F.k;have hf:=F.D.ok.few;refine⟨a,xs,(k:Int),rfl,hx,xL,xL,λj ys hy j0 j1=>⟨ys,rfl,?_⟩⟩;obtain⟨j,rfl⟩:=MI j0;have hj:j<R.asks.length:=by omega
   have hn:=F.D.nms.1 _ (Oh hj);walk_at "w";refine⟨fU R.asks[j],fW (by rw[Nc,MG hj];rfl),?_⟩;walk_at "w";refine⟨x_,h _ _ _ hy ⟨c4 (AH (uq hn) x_),jy ((o9 (uq hn)).mono x_ x_) w1 w2 wq,.inr ?_⟩⟩;show R.asks[j].nm∈_;exact ND.mpr ⟨_,List.mem_iff_getElem?.mpr ⟨j,by rw[List.getElem?_take_of_lt xL,MG hj]⟩,rfl⟩
  . exact Hz F hx h
 . exact Hz F hx h
theorem lJ:∀ls p4,ls.length=3->eF ls p4->fj (ls++List.replicate 8 .un) (bS ls p4):=by rintro ls p4 - ⟨a,xs,R,k,rfl,hx,hR,hk,h⟩;unfold fj;unfold dW;walk_at "w";have n0:2<=R.n:=hR.ok.lo;have n1:R.n<=12:=hR.ok.hi;unfold gQ a8 b7 wC;dsimp only[List.set];have hz:As 8 (Str.ofString "zzzzzzzz"):=EW y_;generalize Str.ofString "zzzzzzzz"=zz at hz;unfold gO;walk_at "w";refine⟨a,xs,(R.n:Int),rfl,hx,xL,xL,λone x1 hx1 o0 o1=>⟨x1,rfl,?_⟩⟩;walk_at "w";unfold gN;walk_at "w";refine⟨a,x1,(R.n:Int)-1,rfl,hx1,xL,xL,λoth x2 hx2 p0 p1=>⟨x2,rfl,?_⟩⟩;walk_at "w";refine⟨xL,?_⟩;have m0:=Int.fmod_nonneg_of_pos (one+1+oth) (show(0:Int)<(R.n:Int) by omega);have m1:=Int.fmod_lt_of_pos (one+1+oth) (show(0:Int)<(R.n:Int) by omega);generalize (one+1+oth).fmod (R.n:Int)=other at m0 m1;unfold gM;walk_at "w";refine⟨a,x2,0,3,rfl,hx2,x_,x_,x_,x_,λq x3 hx3 q0 _ q1=>⟨x3,rfl,?_⟩⟩;walk_at "w";unfold gL;walk_at "w";refine⟨a,x3,9,rfl,hx3,x_,x_,λway x4 hx4 _ _=>⟨x4,rfl,?_⟩⟩;walk_at "w";exact ID ⟨hR,hk,hz,o0,o1,m0,m1,q0,q1⟩ hx4 λd ys Z hy hd=>⟨_,bC v6 (aI (aI bg)),h d ys hy hd⟩
def eH:FS:=λls p4=>∃(a:Addr)(xs row:List D),ls=[.own a xs,.d (.lst row)]/\eV xs/\row.length<=20/\(∀d∈row,WV 2 6000 d)/\∀(d:D)(ys:List D),eV ys->(∀zs,d≠.lst zs)->WV 4 130000 d->p4 (.d d) [.own a ys,.d (.lst row)]
def fk:W Fl:=(dj (aK bI (jb (ao (bu (ba oP (ao (av 1) aJ))) (ao (wC .non) (ao (wC (.bl true)) (ao (wC (.int 2)) (ao (wC (.str "rooms")) (ao (rT 0) (ao (Cg 0 1) aJ)))))))) (aM aj 0 0 (cu 0 (ao (wC (.int 7)) aJ)))))
noncomputable def J0(row:List D):List D:=[.tup row,.non,.bl true,.int 2,.str "rooms",.dct 0,.dk [.inl 0] [.lst row]]
theorem Fs{row:List D}(hl:row.length<=20)(hr:∀d∈row,WV 2 6000 d):∀d∈J0 row,(∀zs,d≠.lst zs)/\WV 4 130000 d:=λd hd=>by
 have w:=WV.two (n:=2) (s:=6000) (m:=3) (t:=120100) hr x_ xL;have k:=WV.dk (m:=4) (t:=130000) (r:=1) (k:=(.inl 0:IG)) ⟨rfl,rfl,y_⟩ w.2 x_ x_;simp only[J0,MC,MS,Oi]at hd;rcases hd with rfl|rfl|rfl|rfl|rfl|rfl|rfl
 . exact⟨λ_ z=>(by cases z),w.1.mono x_ x_⟩
 . exact⟨λ_ z=>(by cases z),dA y_⟩
 . exact⟨λ_ z=>(by cases z),dA y_⟩
 . exact⟨λ_ z=>(by cases z),dA y_⟩
 . exact⟨λ_ z=>(by cases z),dA y_⟩
 . exact⟨λ_ z=>(by cases z),dA y_⟩
 . exact⟨λ_ z=>(by cases z),k⟩
theorem lK:∀ls p4,ls.length=2->eH ls p4->fk (ls++List.replicate 0 .un) (bS ls p4):=by rintro ls p4 - ⟨a,xs,row,rfl,hx,hl,hr,h⟩;unfold fk;walk_at "w";refine⟨x_,λ_=>⟨a,xs,7,rfl,hx,x_,x_,λr ys hy r0 r1=>⟨ys,rfl,?_⟩⟩⟩;walk_at "w";obtain⟨v,ev,hv⟩:=mK (Fs hl hr) r0 (by simpa[J0]using r1);exact⟨v,ev,_,bC v6 (aI bg),h _ _ hy hv.1 hv.2⟩
structure oa (R:bO) (p:Nat) (d:D) (num:Option Nat):Prop where
 wv:WV 5 400000 d
 few:∀rs,d=.lst rs->rs.length<=1000
 rm:p=0->cY d=some num
 ak:p=1->df (R.n:Int) d=some num/\qy d
def eS:FS:=λls p4=>∃(a:Addr)(xs:List D)(R:bO)(p:Nat),ls=[.own a xs,.d (dW R),.d (.int (p:Int))]/\eV xs/\Drawn 11 18 R/\p<2/\∀(d:D)(num:Option Nat)(ys:List D),eV ys->oa R p d num->p4 (.d (.tup [d,mI num])) [.own a ys,.d (dW R),.d (.int (p:Int))]
def gz:W Fl:=(dj (dR (ao (bu (aK bj (aK bj (aK bj (y1 (av 3) none (some (av 6))) (jb (ao (av 7) aJ))) (y1 (av 3) (some (av 6)) none)) (FE (jb (ao (wC .non) aJ)) (aK jc (av 4) (wC (.int 2)))))) (ao (av 6) aJ))))
def kl:W Fl:=(a8 (JH (aY (aK kF (av 2) (wC (.int 0)))) (a8 (b7 7 (bu (aM dG 0 0 (cu 0 aJ))))
  (m9 (xg 3 (av 6)))) (b7 7 (bu (aM eF 0 0 (cu 0 (ao (av 1) (ao (av 6) aJ)))))))
  gz)
def km:W Fl:=(a8 (b7 7 (wC .non))
  kl)
def ko:W L:=(d7 1 (vm 1 (wC (.int 0))) (aK bI (av 1) (wC (.int 0))))
def kq:W L:=(wC .non)
def kr:W Fl:=(a8 (b7 6 (bu (aM aj 0 0 (cu 0 (ao (bu (aK bj (d7 3 (yT 3) (ba d4 (ao (av 3) aJ))) (av 2))) aJ)))))
  km)
def ku:W Fl:=(a8 (JH (aY (aK kF (av 4) (wC (.int 1)))) (a8 (b7 5 (aK bI (jb (ao (wC (.int 12)) (ao (wC (.int 20)) aJ))) (av 2)))
  (a8 (b7 3 (F4 (tO 3 (aY (aK An (av 3) (jb aJ)))) (aK bj (av 3) (qf 1 [3] (pX (aK bj (av 5) (wC (.int 1)))) (cw 0) ng ko)) (qf 1 [] (pX (aK bj (av 5) (wC (.int 1)))) (cw 0) ng kq)))
  (a8 (JH (CZ (aY (aK kF (av 2) (wC (.int 0)))) (aY (aK kF (aM aj 0 0 (cu 0 (ao (wC (.int 2)) aJ))) (wC (.int 0))))) (dj (dR (ao (bu (y1 (av 3) none (some (aM aj 0 0 (cu 0 (ao (wC (.int 2)) aJ)))))) (ao (wC .non) aJ)))) bH)
  (dj (dR (ao (bu (aK bj (FE (jb (ao (wC .non) aJ)) (aM aj 0 0 (cu 0 (ao (wC (.int 2)) aJ)))) (y1 (av 3) none (some (aK bj (aK bj (av 5) (wC (.int 1))) (aM aj 0 0 (cu 0 (ao (wC (.int 3)) aJ)))))))) (ao (wC .non) aJ))))))) bH)
  kr)
def kx:W Fl:=(a8 (JH (aY (aK kF (av 4) (wC (.int 0)))) (dj (dR (ao (bu (aM eH 0 0 (cu 0 (ao (av 3) aJ)))) (ao (wC .non) aJ)))) bH)
  ku)
def gA:W Fl:=(a8 (b7 4 (bu (aM aj 0 0 (cu 0 (ao (wC (.int 4)) aJ)))))
  kx)
def jz:W Fl:=(a8 (b7 3 (ba jI (ao (aK bI (av 1) (av 2)) aJ)))
  gA)
structure Mo (R:bO) (p:Nat) (bs:List D):Prop where
 D:Drawn 11 18 R
 hp:p<2
 len:bs.length<=18
 wv:∀d∈bs,WV 2 6000 d/\qV d
 p0:p=0->bs=R.rooms.map JX
 p1:p=1->bs=R.asks.map fU
theorem CT(q:Rat):qV (JX q):=λxs e a ha=>by cases e;cases ha;exact λx e=>by cases e
theorem pA{z:KD}(h:sE z.nm):qV (fU z):=λxs e a ha=>by cases e;cases ha;intro x e;cases e;have as:=uq h;refine⟨?_,Nd as.len x_⟩;rw[Array.all_eq_true_iff_forall_mem];exact λc hc=>Nn (as.asc c (Array.mem_toList_iff.mpr hc))
theorem G1{R:bO}{p:Nat}(hR:Drawn 11 18 R)(hp:p<2):∃bs,Jo [D.lst (R.rooms.map JX),D.lst (R.asks.map fU)] (p:Int)=some (.lst bs)/\Mo R p bs:=by
 have hn:R.rooms.length<=11:=hR.hi;rcases(by omega:p=0∨p=1)with rfl|rfl
 . refine⟨_,rfl,hR,hp,by rw[MD];omega,λd hd=>?_,λ_=>rfl,λz=>absurd z x_⟩;obtain⟨q,hq,rfl⟩:=ND.mp hd;exact⟨(va (hR.ok.room q hq).2).mono x_ x_,CT q⟩
 . refine⟨_,rfl,hR,hp,by rw[MD];exact hR.few,λd hd=>?_,λz=>absurd z x_,λ_=>rfl⟩;obtain⟨z,hz,rfl⟩:=ND.mp hd;exact⟨AG (hR.ok.ask z hz) hR.ok.hi (hR.nms.1 z hz) (hR.tt z hz),pA (hR.nms.1 z hz)⟩
theorem sN{R:bO}{p:Nat}{d:D}(h:∀zs,d≠.lst zs)(w:WV 4 130000 d):oa R p d none:=by
 refine⟨w.mono x_ x_,λrs e=>absurd e (h rs),λ_=>?_,λ_=>⟨?_,λrs e=>absurd e (h rs)⟩⟩
 .
  cases d with
  |lst zs=>exact absurd rfl (h zs)
  |_=>rfl
 .
  cases d with
  |lst zs=>exact absurd rfl (h zs)
  |_=>rfl
theorem iK{R:bO}{p:Nat}{ds:List D}(hd:∀d∈ds,WV 2 6000 d/\qV d)(h0:p=0->ds.length<2∨12<ds.length)(h1:p=1->20<ds.length)(hl:ds.length<=60):oa R p (.lst ds) none:=by
 refine⟨(WV.two (λd h=>(hd d h).1) x_ xL).2,λrs e=>(by cases e;omega),λz=>?_,λz=>⟨?_,λrs e=>(by cases e;exact⟨xL,λa ha=>(hd a ha).2⟩)⟩⟩
 .
  show(if _ then _ else _)=_
  rw[if_neg (by have:=h0 z;omega)]
 .
  show(if _ then _ else _)=_
  rw[if_pos (h1 z)]
theorem vf{xs ys:List D}{d:D}(h:∀x∈xs,KY x=true)(hd:KY d=false):(xs++d::ys).findIdx? (λr=>!KY r)=some xs.length:=by
 induction xs with
 |nil=>rw[N6,List.findIdx?_cons,hd];rfl
 | cons x xs ih =>
  rw[Ol,List.findIdx?_cons,h x Mw,ih λy hy=>h y (so _ hy)];rfl
theorem qM{n:Int}{ys:List D}{d:D}:∀(xs:List D)(tk:List Str)(i:Nat),(∀x∈xs,u9 n x=true)->(xs.map lD).Nodup->(∀x∈xs,lD x∉tk)->(u9 n d=false∨lD d∈tk∨lD d∈xs.map lD)->dU n (xs++d::ys) tk i=some (i+xs.length)
 | [],tk,i,_,_,_,hd=>by
  rw[N6];unfold dU;rw[if_neg]
  . rfl
  .
   rintro⟨a,b⟩;rcases hd with hd|hd|hd
   . rw[hd]at a;cases a
   . exact b hd
   . cases hd
 | x::xs,tk,i,h,nd,ht,hd=>by
  rw[Ol];unfold dU;rw[MN,MQ]at nd;rw[if_pos ⟨h x Mw,ht x Mw⟩]
  have q2:∀y∈xs,lD y∉lD x::tk:=λy hy z=>by
   rcases MC.mp z with z|z
   . exact nd.1 (z ▸ List.mem_map_of_mem hy)
   . exact ht y (so _ hy) z
  have q3:u9 n d=false∨lD d∈lD x::tk∨lD d∈xs.map lD:=by
   rcases hd with hd|hd|hd
   . exact .inl hd
   . exact .inr (.inl (so _ hd))
   .
    rw[MN]at hd;rcases MC.mp hd with hd|hd
    . exact .inr (.inl (hd ▸ Mw))
    . exact .inr (.inr hd)
  rw[qM xs (lD x::tk) (i+1) (λy hy=>h y (so _ hy)) nd.2 q2 q3,MY]
  congr 1
  omega
theorem mS(k:Nat):(List.replicate k [D.non]).flatten=List.replicate k .non:=by
 induction k with
 |zero=>rfl
 |succ k ih=>rw[M3,NO,ih];rfl
theorem G2{R:bO}{bs:List D}(B:Mo R 1 bs){m j:Nat}{d:D}(hm:m<=bs.length)(hj:j<=1)(hd:Fo R m d):oa R 1 (.lst (bs.take m++[d]++bs.drop m++List.replicate j .non)) (some m):=by
 have bl:=B.len;have ll:(bs.take m++[d]++bs.drop m++List.replicate j D.non).length<=20:=by simp;omega
 have hall:∀x∈bs.take m++[d]++bs.drop m++List.replicate j D.non,WV 4 9000 x/\qV x:=λx hx=>by
  rcases ML.mp hx with hx|hx
  .
   rcases ML.mp hx with hx|hx
   .
    rcases ML.mp hx with hx|hx
    . have:=B.wv x (Nu hx);exact⟨this.1.mono x_ x_,this.2⟩
    . rw[Nk.mp hx];exact⟨hd.wv,hd.a⟩
   . have:=B.wv x (List.mem_of_mem_drop hx);exact⟨this.1.mono x_ x_,this.2⟩
  . rw[NV hx];exact⟨dA y_,eG λ_ z=>(by cases z)⟩
 refine⟨(WV.two (λx hx=>(hall x hx).1) x_ xL).2,λrs e=>(by cases e;omega),λz=>absurd z x_,λ_=>⟨?_,λrs e=>(by cases e;exact⟨xL,λa ha=>(hall a ha).2⟩)⟩⟩
 show(if _ then _ else _)=_
 rw[if_neg (by omega)];show(dU _ _ [] 0).map some=_;have eb:=B.p1 rfl;have hm':m<=R.asks.length:=by rw[eb,MD]at hm;exact hm
 have et:bs.take m=(R.asks.take m).map fU:=by rw[eb,List.map_take]
 have q1:∀x∈bs.take m,u9 (R.n:Int) x=true:=λx hx=>by rw[et]at hx;obtain⟨z,hz,rfl⟩:=ND.mp hx;have hz:=Nu hz;exact xR (B.D.ok.ask z hz) (B.D.nms.1 z hz)
 have en:(bs.take m).map lD=(R.asks.map (·.nm)).take m:=by rw[et,List.map_map,<- List.map_take];rfl
 have q2:((bs.take m).map lD).Nodup:=by rw[en];exact(List.take_sublist _ _).nodup B.D.nms.2
 have q3:u9 (R.n:Int) d=false∨lD d∈[]∨lD d∈(bs.take m).map lD:=by
  rcases hd.no with z|z
  . exact .inl z
  . refine .inr (.inr ?_);rw[en,<- List.map_take];exact z
 rw[MV,MV,List.singleton_append,qM _ _ _ q1 q2 (λ_ _ z=>by cases z) q3,M8,Nat.min_eq_left hm];simp
theorem G3{R:bO}{bs:List D}(B:Mo R 0 bs){m j:Nat}{d:D}(hm:m<bs.length)(hj:j<=1)(hd:KY d=false)(hw:WV 3 2000 d):oa R 0 (.lst ((bs.eraseIdx m).take m++[d]++(bs.eraseIdx m).drop m++List.replicate j .non)) (some m):=by
 have eb:=B.p0 rfl;have bn:bs.length=R.n:=by rw[eb,MD];rfl
 have n0:=B.D.ok.lo;have n1:R.n<=11:=B.D.hi;have el:(bs.eraseIdx m).length=bs.length-1:=List.length_eraseIdx_of_lt hm;have ll:((bs.eraseIdx m).take m++[d]++(bs.eraseIdx m).drop m++List.replicate j D.non).length=bs.length+j:=by simp only[MK,M8,Nm,NQ,NP,el];omega
 have hall:∀x∈(bs.eraseIdx m).take m++[d]++(bs.eraseIdx m).drop m++List.replicate j D.non,WV 3 6000 x:=λx hx=>by
  rcases ML.mp hx with hx|hx
  .
   rcases ML.mp hx with hx|hx
   .
    rcases ML.mp hx with hx|hx
    . exact(B.wv x (List.mem_of_mem_eraseIdx (Nu hx))).1.mono x_ x_
    . rw[Nk.mp hx];exact hw.mono x_ x_
   . exact(B.wv x (List.mem_of_mem_eraseIdx (List.mem_of_mem_drop hx))).1.mono x_ x_
  . rw[NV hx];exact dA y_
 refine⟨(WV.two hall x_ xL).2,λrs e=>(by cases e;omega),λ_=>?_,λz=>absurd z x_⟩
 show(if _ then _ else _)=_
 rw[if_pos (by omega),MV,MV,List.singleton_append,vf (λx hx=>?_) hd]
 . rw[M8,el,Nat.min_eq_left xL];rfl
 . have:=List.mem_of_mem_eraseIdx (Nu hx);rw[eb]at this;obtain⟨q,hq,rfl⟩:=ND.mp this;exact AE (B.D.ok.room q hq).1
theorem AI{r:D}{p m:Nat}{zs ys:List D}{d:D}{way:Int}{a b:Addr}{x5:L}{Q:Fl->Ev->Prop}(hz:zs.length<=18)(w0:2<=way)(w1:way<4)(q:∀Z,Q (.rt (.d (.tup [.lst (zs.take m++[d]++zs.drop m++List.replicate (way-2).toNat .non),.int (m:Int)]))) (.own a ys::.d r::.d (.int (p:Int))::Z)):gz [.own a ys,.d r,.d (.int (p:Int)),.own b zs,.d (.int way),x5,.d (.int (m:Int)),.d d] Q:=by
 have e0:sizeLine=16777216:=by decide
 unfold gz;walk_at "w";rw[mS];simp only[lX,Ae,MK,M8,Nm,NP,MY,NY];exact λ_=>⟨xL,λ_=>⟨xL,λ_ _=>⟨xL,λ_=>⟨xL,λ_=>⟨⟨xL,xL⟩,xL,λ_=>⟨xL,λ_=>⟨xL,q _⟩⟩⟩⟩⟩⟩⟩
theorem G4{xs:List D}(h:eV xs):kJ xs=true:=by obtain⟨c,sd,t,rfl,_,_⟩:=h;rfl
theorem CU(k:Nat):(oO 0 k).length=k:=by simp[oO]
theorem lY{row:List D}{most u:Nat}:vn row none (some ((most:Int)+1+(u:Int)))=row.take (most+1+u):=by rw[<- lX,show((most+1+u:Nat):Int)=(most:Int)+1+(u:Int) by omega]
theorem lZ{row:List D}{t k:Nat}:(List.replicate t D.non++row.take k).length=t+min k row.length:=by simp
theorem l3{row:List D}{t k:Nat}(hr:∀d∈row,WV 2 6000 d/\qV d):∀d∈List.replicate t D.non++row.take k,WV 2 6000 d/\qV d:=λd hd=>by
 rcases ML.mp hd with hd|hd
 . rw[NV hd];exact⟨dA y_,eG λ_ z=>(by cases z)⟩
 . exact hr d (Nu hd)
theorem oe{caps:Ev}{te:W L}{k:List D->Ev->Prop}(c:D)(xs:List D)(l:L)(step:∀a∈xs,∀Q:Ev->D->Prop,Q (.d a::caps) c->te (.d a::caps) λr Z3=>JA r λy=>Q Z3 y)(IV:∀l',k (List.replicate xs.length c) (l'::caps)):g6 (cw 0) ng te xs (l::caps) [] k:=by have:=oZ (enc:=id) (h:=λ_=>c) (te:=te) (k:=k) (caps:=caps) xs [] l step (by rw[N6,List.map_const'];exact IV);simpa using this
theorem Ft{R:bO}{p:Nat}{bs:List D}(B:Mo R p bs){a b:Addr}{xs:List D}{Q:Fl->Ev->Prop}(hx:eV xs)(h:∀(d:D) (num:Option Nat) (ys:List D) (Z:Ev),eV ys->oa R p d num->Q (.rt (.d (.tup [d,mI num]))) (.own a ys::.d (.tup [.lst (R.rooms.map JX),.lst (R.asks.map fU)])::.d (.int (p:Int))::Z)):gA [.own a xs,.d (.tup [.lst (R.rooms.map JX),.lst (R.asks.map fU)]),.d (.int (p:Int)),.own b bs,.un,.un,.un,.un] Q:=by
 have bl:=B.len;unfold gA;walk_at "w";refine⟨a,xs,4,rfl,hx,x_,x_,λway x1 hx1 w0 w1=>⟨x1,rfl,?_⟩⟩;walk_at "w";unfold kx;walk_at "w";split
 . refine⟨a,x1,bs,rfl,hx1,xL,λd hd=>(B.wv d hd).1,λd ys hy hd hw=>⟨ys,rfl,x_,?_⟩⟩;exact h _ none _ _ hy (sN hd hw)
 unfold ku;walk_at "w";split
 .
  obtain⟨most,ev,m12⟩:∃most:Nat,Jo [D.int 12,D.int 20] (p:Int)=some (.int (most:Int))/\(most=12/\p=0∨most=20/\p=1):=by
   rcases(by have:=B.hp;omega:p=0∨p=1)with rfl|rfl
   . exact⟨12,rfl,.inl ⟨rfl,rfl⟩⟩
   . exact⟨20,rfl,.inr ⟨rfl,rfl⟩⟩
  have shb:bY (.lst bs):=by
   rcases(by have:=B.hp;omega:p=0∨p=1)with e|e
   . rw[B.p0 e];exact xr _
   . rw[B.p1 e];exact cx (n:=3) (by simp only[JY];exact o5 _ λz hz=>Cm (B.D.ok.ask z hz)) x_
  refine⟨x_,λ_=>⟨_,ev,G4 hx1,x_,λ_=>⟨shb,cx (n:=1) rfl x_,?_⟩⟩⟩;have er:((most:Int)+1).toNat=most+1:=by omega
  have es:tw ((most:Int)+1):=by rcases m12 with⟨rfl,_⟩|⟨rfl,_⟩<;>exact⟨x_,x_⟩
  have erl:(oO 0 (most+1)).length=most+1:=CU _;have e0:sizeLine=16777216:=by decide
  cases bs with
  | nil =>
   rw[if_neg (by decide)];walk_at "w";rw[er];refine⟨es,xL,oe .non _ _ (λx hx Q q=>?_) λl=>?_⟩
   . unfold kq;walk_at "w";exact q
   rw[erl];obtain⟨row,hrow⟩:∃rp,rp=List.replicate (most+1) D.non:=⟨_,rfl⟩;rw[<- hrow];have hr:∀d∈row,WV 2 6000 d/\qV d:=λd hd=>by rw[hrow]at hd;rw[NV hd];exact⟨dA y_,eG λ_ z=>(by cases z)⟩
   have rl:row.length=most+1:=by rw[hrow,NP]
   walk_at "w";refine λ_=>?_;split
   .
    rename_i e;refine⟨a,x1,2,rfl,hx1,x_,x_,λu ys hy u0 u1=>⟨ys,rfl,?_⟩⟩;walk_at "w";split
    . refine⟨a,ys,2,rfl,hy,x_,x_,λt zs hz t0 t1=>⟨zs,rfl,?_⟩⟩;obtain⟨t,rfl⟩:=MI t0;walk_at "w";rw[lX];exact λ_=>⟨x_,h _ none _ _ hz (iK (λd hd=>hr d (Nu hd)) (λ_=>.inl (by rw[M8];omega)) (λz=>by omega) (by rw[M8];omega))⟩
    . refine⟨x_,λ_=>⟨a,ys,2,rfl,hy,x_,x_,λt zs hz t0 t1=>⟨zs,rfl,⟨xL,xL⟩,xL,λ_=>⟨a,zs,3,rfl,hz,x_,x_,λu us hu u0 u1=>⟨us,rfl,?_⟩⟩⟩⟩⟩;obtain⟨t,rfl⟩:=MI t0;obtain⟨u,rfl⟩:=MI u0;walk_at "w";rw[mS,lY];have ml:=lZ (row:=row) (t:=(t:Int).toNat) (k:=most+1+u);exact λ_=>⟨by rw[<- MK];omega,λ_=>⟨x_,h _ none _ _ hu (iK (λd hd=>l3 hr d hd) (λ_=>.inr xL) (λ_=>by omega) xL)⟩⟩
   . refine⟨x_,λ_=>⟨a,x1,2,rfl,hx1,x_,x_,λt zs hz t0 t1=>⟨zs,rfl,⟨xL,xL⟩,xL,λ_=>⟨a,zs,3,rfl,hz,x_,x_,λu us hu u0 u1=>⟨us,rfl,?_⟩⟩⟩⟩⟩;obtain⟨t,rfl⟩:=MI t0;obtain⟨u,rfl⟩:=MI u0;walk_at "w";rw[mS,lY];have ml:=lZ (row:=row) (t:=(t:Int).toNat) (k:=most+1+u);exact λ_=>⟨by rw[<- MK];omega,λ_=>⟨x_,h _ none _ _ hu (iK (λd hd=>l3 hr d hd) (λ_=>.inr xL) (λ_=>by omega) xL)⟩⟩
  | cons b0 bs =>
   rw[if_pos (by rfl)];walk_at "w";rw[er];refine⟨es,xL,oe b0 _ _ (λx hx Q q=>?_) λl=>?_⟩
   . unfold ko;walk_at "w";exact q
   rw[erl];obtain⟨rp,hrp⟩:∃rp,rp=List.replicate (most+1) b0:=⟨_,rfl⟩;rw[<- hrp];have rpl:rp.length=most+1:=by rw[hrp,NP]
   have hr:∀d∈b0::(bs++rp),WV 2 6000 d/\qV d:=λd hd=>by
    rcases MC.mp hd with rfl|hd
    . exact B.wv _ Mw
    .
     rcases ML.mp hd with hd|hd
     . exact B.wv _ (so _ hd)
     . rw[hrp]at hd;rw[NV hd];exact B.wv _ Mw
   rw[MY]at bl;have rl:(b0::(bs++rp)).length=bs.length+most+2:=by rw[MY,MK,rpl];omega
   simp only[List.drop_succ_cons,List.drop_zero,eN,List.set_cons_succ,List.set_cons_zero];walk_at "w";generalize (b0::(bs++rp))=row at hr rl;refine λ_=>⟨xL,λ_=>?_⟩;split
   .
    rename_i e;refine⟨a,x1,2,rfl,hx1,x_,x_,λu ys hy u0 u1=>⟨ys,rfl,?_⟩⟩;walk_at "w";split
    . refine⟨a,ys,2,rfl,hy,x_,x_,λt zs hz t0 t1=>⟨zs,rfl,?_⟩⟩;obtain⟨t,rfl⟩:=MI t0;walk_at "w";rw[lX];exact λ_=>⟨x_,h _ none _ _ hz (iK (λd hd=>hr d (Nu hd)) (λ_=>.inl (by rw[M8];omega)) (λz=>by omega) (by rw[M8];omega))⟩
    . refine⟨x_,λ_=>⟨a,ys,2,rfl,hy,x_,x_,λt zs hz t0 t1=>⟨zs,rfl,⟨xL,xL⟩,xL,λ_=>⟨a,zs,3,rfl,hz,x_,x_,λu us hu u0 u1=>⟨us,rfl,?_⟩⟩⟩⟩⟩;obtain⟨t,rfl⟩:=MI t0;obtain⟨u,rfl⟩:=MI u0;walk_at "w";rw[mS,lY];have ml:=lZ (row:=row) (t:=(t:Int).toNat) (k:=most+1+u);exact λ_=>⟨by rw[<- MK];omega,λ_=>⟨x_,h _ none _ _ hu (iK (λd hd=>l3 hr d hd) (λ_=>.inr xL) (λ_=>by omega) xL)⟩⟩
   . refine⟨x_,λ_=>⟨a,x1,2,rfl,hx1,x_,x_,λt zs hz t0 t1=>⟨zs,rfl,⟨xL,xL⟩,xL,λ_=>⟨a,zs,3,rfl,hz,x_,x_,λu us hu u0 u1=>⟨us,rfl,?_⟩⟩⟩⟩⟩;obtain⟨t,rfl⟩:=MI t0;obtain⟨u,rfl⟩:=MI u0;walk_at "w";rw[mS,lY];have ml:=lZ (row:=row) (t:=(t:Int).toNat) (k:=most+1+u);exact λ_=>⟨by rw[<- MK];omega,λ_=>⟨x_,h _ none _ _ hu (iK (λd hd=>l3 hr d hd) (λ_=>.inr xL) (λ_=>by omega) xL)⟩⟩
 unfold kr;walk_at "w";have hp:=B.hp;refine⟨a,x1,(bs.length:Int)+(p:Int),rfl,hx1,?_,xL,λat_ x2 hx2 a0 a1=>⟨x2,rfl,?_⟩⟩
 .
  have:=B.D.ok.lo;rcases(by omega:p=0∨p=1)with e|e
  .
   have:bs.length=R.n:=by rw[B.p0 e,MD];rfl
   omega
  . omega
 obtain⟨m,rfl⟩:=MI a0;walk_at "w";unfold km;walk_at "w";unfold kl;walk_at "w";split
 .
  rename_i e;have e:p=0:=by omega
  refine⟨a,x2,rfl,hx2,λd ys hy hd hw=>⟨ys,rfl,?_⟩⟩;have hm:m<bs.length:=by omega
  have el:(bs.eraseIdx m).length=bs.length-1:=List.length_eraseIdx_of_lt hm;walk_at "w";unfold xg;walk_at "w";have big:(2:Nat)^60=1152921504606846976:=by decide
  refine⟨m,bs[m],rfl,xL,MG hm,?_⟩;exact AI xL xL w1 λZ=>h _ (some m) _ _ hy (by subst e;exact G3 B hm xL hd hw)
 .
  rename_i e;have e:p=1:=by omega
  have el:bs.length=R.asks.length:=by rw[B.p1 e,MD]
  refine⟨a,x2,R,m,rfl,hx2,B.D,xL,λd ys hy hd=>⟨ys,rfl,?_⟩⟩;walk_at "w";exact AI xL xL w1 λZ=>h _ (some m) _ _ hy (by subst e;exact G2 B xL xL hd)
theorem pB:∀ls p4,ls.length=3->eS ls p4->jz (ls++List.replicate 5 .un) (bS ls p4):=by rintro ls p4 - ⟨a,xs,R,p,rfl,hx,hR,hp,h⟩;unfold jz;unfold dW;walk_at "w";obtain⟨bs,eb,B⟩:=G1 hR hp;refine⟨_,eb,λb=>?_⟩;exact Ft B hx λd num ys Z hy hd=>⟨_,bC v6 (aI (aI bg)),h d num ys hy hd⟩
def cI:FS:=λls p4=>∃(d:D)(p:Str)(k:Option Nat),ls=[.d d,.d (.str p),.d (mI k)]/\(∀r a,d=.tup [r,a]->(∀rs,r=.lst rs->rs.length<=1000000)/\qy a)/\dz d=some (p,k)/\bY (.str p)/\p4 (.d (.bl true)) ls
def gR:W Fl:=(dj (ly (aK kF (JG (ql "part") (av 3)) (av 1)) (aK kF (JG (ql "number") (av 3)) (av 2))))
def gS:W Fl:=(a8 (JH (JE (aY (JG (jf "bool") (JG (ql "number") (av 3)))) (oJ (aY (JG (jf "str") (JG (ql "part") (av 3)))))) (dj (wC (.bl false))) bH)
  gR)
def gT:W Fl:=(a8 (JH (aY (JG (tX ["NoNumber","NoSlide","NoString","NoText","TooMany"]) (av 3))) (dj (wC (.bl false))) bH)
  gS)
def dO:W Fl:=(a8 (JH (JE (oJ (aY (JG (zu "NoRing") (av 3)))) (oJ (aY (JG (jf "ValueError") (av 3))))) (dj (wC (.bl false))) bH)
  gT)
def gU:W Fl:=(a8 (w8 (λxt=>(m9 (tV cH xt (ao (av 0) aJ)))) "LoadError" 4 (b7 3 (av 4)))
  dO)
def fm:W Fl:=(a8 (b7 3 (wC .non))
  gU)
theorem Fu{x0:D}{p:Str}{k:Option Nat}{e:L}{Q:Fl->Ev->Prop}(sp:bY (.str p))(q:∀ Z,Q (.rt (.d (.bl true))) (.d x0::.d (.str p)::.d (mI k)::Z)):dO [.d x0,.d (.str p),.d (mI k),.d (.exc (Str.ofString "NoRing") [Str.ofString "part",Str.ofString "number"] [.str p,mI k]),e] Q:=by
 unfold dO;have a1:¬ (true ||Str.ofString "NoRing" == Str.ofString "LoadError")=false:=by decide +kernel
 have a2:je "ValueError" (D.exc (Str.ofString "NoRing") [Str.ofString "part",Str.ofString "number"] [.str p,mI k])=true:=rfl;have a2':¬ je "ValueError" (D.exc (Str.ofString "NoRing") [Str.ofString "part",Str.ofString "number"] [.str p,mI k])=false:=by rw[a2]; decide
 have a5:([Str.ofString "NoNumber",Str.ofString "NoSlide",Str.ofString "NoString",Str.ofString "NoText",Str.ofString "TooMany"].any λc=>c == Str.ofString "NoRing" ||c == Str.ofString "LoadError")=false:=by decide +kernel
 walk_at "w";rw[if_neg a1,if_neg a2'];unfold gT;refine EX (λk hk=>?_) (CL ?_)
 . walk_at "w";rw[a5];exact hk
 unfold gS;have l1:List.lookup (Str.ofString "number") ([Str.ofString "part",Str.ofString "number"].zip [D.str p,mI k])=some (mI k):=by show List.lookup (Str.ofString "number") [(Str.ofString "part",D.str p),(Str.ofString "number",mI k)]=_;rw[MU,show(Str.ofString "number" == Str.ofString "part")=false from by decide +kernel,MU,show(Str.ofString "number" == Str.ofString "number")=true from by decide +kernel]
 have l2:List.lookup (Str.ofString "part") ([Str.ofString "part",Str.ofString "number"].zip [D.str p,mI k])=some (.str p):=by show List.lookup (Str.ofString "part") [(Str.ofString "part",D.str p),(Str.ofString "number",mI k)]=_;rw[MU,show(Str.ofString "part" == Str.ofString "part")=true from by decide +kernel]
 have b1:¬ je "bool" (mI k)=true:=by cases k <;> exact M6
 have b2:je "str" (D.str p)=true:=rfl;walk_at "w";rw[l1,l2];dsimp only;rw[if_neg b1,if_neg (by rw[b2];decide)];unfold gR;walk_at "w";rw[l1,l2];dsimp only;have sh:bY (mI k):=by cases k<;>exact cx (n:=0) rfl x_
 have ek:JN (mI k) (mI k)=true:=by
  cases k with
  |none=>rfl
  |some i=>show JN (.int (i:Int)) (.int (i:Int))=true;rw[jg];simp
 have ep:JN (D.str p) (D.str p)=true:=by rw[wx];simp
 rw[if_pos ep,ek];exact⟨sp,sp,sh,sh,q _⟩
theorem lL:∀ls p4,ls.length=3->cI ls p4->fm (ls++List.replicate 2 .un) (bS ls p4):=by rintro ls p4 - ⟨d,p,k,rfl,h1,h2,sp,h⟩;unfold fm;walk_at "w";unfold gU;walk_at "w";refine⟨d,rfl,h1,λz=>(by rw[h2]at z;cases z),λp' k' e=>?_⟩;rw[h2]at e;cases e;exact⟨Bool.or_true _,Fu sp λZ=>⟨_,aI (aI (aI bg)),h⟩⟩
def eI:FS:=λls p4=>∃(a:Addr)(xs:List D)(R:bO),ls=[.own a xs,.d (dW R)]/\eV xs/\R.Ok/\∀(d:D)(ys:List D),eV ys->dz d=some (Str.ofString "ring",none)->(∀ r a,d≠.tup [r,a])->p4 (.d d) [.own a ys,.d (dW R)]
def gW:W Fl:=(dj (aK bI (av 4) (aM aj 0 0 (cu 0 (ao (wC (.int 11)) aJ)))))
def gX:W Fl:=(a8 (b7 4 (bu (jb (ao (wC .non) (ao (bu (jb (ao (av 2) (ao (av 3) aJ)))) (ao (dR (ao (av 2) aJ)) (ao (dR (ao (av 2) (ao (av 3) (ao (bu (jb aJ)) aJ)))) (ao (dR aJ) (ao (wC (.str "ring")) (ao (wC (.bl true)) (ao (wC (.int 0)) (ao (rT 0) (ao (dR (ao (av 2) (ao (av 3) (ao (wC .non) aJ)))) (ao (av 2) aJ))))))))))))))
  gW)
def ft:W Fl:=(a8 (wj [2,3] (av 1))
  gX)
noncomputable def Mp(r a:List D):List D:=[.non,.lst [.lst r,.lst a],.tup [.lst r],.tup [.lst r,.lst a,.lst []],.tup [],.str "ring",.bl true,.int 0,.dct 0,.tup [.lst r,.lst a,.non],.lst r]
theorem Fv(r a:List D):∀ d∈Mp r a,dz d=some (Str.ofString "ring",none)/\(∀ r a,d≠.tup [r,a]):=λd hd=>by simp only[Mp,MC,MS,Oi]at hd;rcases hd with rfl|rfl|rfl|rfl|rfl|rfl|rfl|rfl|rfl|rfl|rfl<;>exact⟨rfl,λ_ _ z=>by cases z⟩
theorem lM:∀ls p4,ls.length=2->eI ls p4->ft (ls++List.replicate 3 .un) (bS ls p4):=by rintro ls p4 - ⟨a,xs,R,rfl,hx,hR,h⟩;unfold ft;walk_at "w";unfold dW lz;walk_at "w";unfold gX;walk_at "w";refine⟨x_,λ_=>⟨x_,x_,λ_=>⟨x_,x_,x_,x_,λ_=>?_⟩⟩⟩;unfold gW;walk_at "w";refine⟨a,xs,11,rfl,hx,x_,x_,λr ys hy r0 r1=>⟨ys,rfl,?_⟩⟩;walk_at "w";obtain⟨v,ev,hv⟩:=mK (Fv _ _) r0 (by simpa[Mp]using r1);exact⟨v,ev,_,bC v6 (aI bg),h _ _ hy hv.1 hv.2⟩
def iu:FS:=λls p4=>∃R:bO,ls=[.d (dW R)]/\p4 (.d (dW R)) ls
def jA:W Fl:=(dj (dR (ao (bu (ba jI (ao (aK bI (av 0) (wC (.int 0))) aJ))) (ao (bu (ba jI (ao (aK bI (av 0) (wC (.int 1))) aJ))) aJ))))
theorem pC:∀ls p4,ls.length=1->iu ls p4->jA (ls++List.replicate 0 .un) (bS ls p4):=by rintro ls p4 - ⟨R,rfl,h⟩;unfold jA;walk_at "w";exact λ_ _=>⟨x_,_,aI bg,h⟩
def fs_law:FS:=λls p4=>∃ns:List Int,ls=[.d (.lst (ns.map .int))]/\ns.length<=63/\p4 (.d (.bl true)) ls
theorem xZ{ns:List Int}(hl:ns.length<=63):fs_law [.d (.lst (ns.map .int))] (λr _=>r=.d (.bl true)):=⟨ns,rfl,hl,rfl⟩
def og:W Fl:=(JH (JE (oJ (aY (d3 cI (ao (av 8) (ao (aK bI (jb (ao (wC (.str "rooms")) (ao (wC (.str "asks")) aJ))) (av 4)) (ao (av 6) aJ)))))) (aY (aK zd (ba ub (ao (av 8) aJ)) (av 9)))) (dj (wC (.bl false))) bH)
def oh:W Fl:=(a8 (b7 9 (bu (ba ub (ao (av 8) aJ))))
  og)
def ya:W Fl:=(rK 7 (wC (.int 1)) (aK bI (aM eS 0 3 (cu 3 (ao (av 1) (ao (wC (.int 1)) aJ)))) (wC (.int 0))))
def iL:W Fl:=(a8 (b7 8 (dR (ao (d7 7 (vm 7 (wC (.int 0))) (aK bI (av 7) (wC (.int 0)))) (ao (d7 7 (vm 7 (wC (.int 1))) (aK bI (av 7) (wC (.int 1)))) aJ))))
  oh)
def fN:W Fl:=(a8 (JH (CZ (aY (aK kF (av 4) (wC (.int 0)))) (aY (aK kF (aM aj 0 3 (cu 3 (ao (wC (.int 3)) aJ))) (wC (.int 0))))) ya bH)
  iL)
def oj:W Fl:=(a8 (rK 7 (av 4) (av 5))
  fN)
def om:W Fl:=(a8 (b7 7 (jb (ao (bu (ba jI (ao (aK bI (av 1) (wC (.int 0))) aJ))) (ao (bu (ba jI (ao (aK bI (av 1) (wC (.int 1))) aJ))) aJ))))
  oj)
def ou:W Fl:=(a8 (wj [5,6] (aM eS 0 3 (cu 3 (ao (av 1) (ao (av 4) aJ)))))
  om)
def yb:W Fl:=(JH (oJ (aY (d3 cI (ao (bu (aM eI 0 3 (cu 3 (ao (bu (d3 iu (ao (av 1) aJ))) aJ)))) (ao (wC (.str "ring")) (ao (wC .non) aJ)))))) (dj (wC (.bl false))) bH)
def iM:W Fl:=(a8 (b7 4 (bu (aM aj 0 3 (cu 3 (ao (wC (.int 2)) aJ)))))
  ou)
def oy:W Fl:=(a8 (JH (aY (aK kF (aM aj 0 3 (cu 3 (ao (wC (.int 6)) aJ))) (wC (.int 0)))) yb bH)
  iM)
def yc:W Fl:=(a8 (b7 3 (d3 bT (ao (av 0) (ao (av 2) aJ))))
  oy)
def yd:W Fl:=(dj (aK yV (nT cH (λ_=>False) (ao (av 1) aJ)) (wC .non)))
def ye:W Fl:=(a8 (Bg (Bf (wC (.int 3)) (ba yQ (ao (wC (.int 4)) (ao (bu (ba yR (ao (bu (ba d4 (ao (av 0) aJ))) (ao (wC (.int 43)) aJ)))) aJ)))) (cw 2) yc)
  yd)
def CV:W Fl:=(a8 (b7 1 (bu (d3 ir (ao (av 0) (ao (wC (.int 0)) (ao (wC (.int 11)) (ao (wC (.int 18)) aJ)))))))
  ye)
theorem G5{S K x1 x5 r as:D}{p:Nat}{pt:Str}{num:Option Nat}{a b:Addr}{xs:List D}{x8 x9:L}{Q:Fl->Ev->Prop}(wr:WV 5 400000 r)(wa:WV 5 400000 as)(hb:dz (.tup [r,as])=some (pt,num))(hr:∀ rs,r=.lst rs->rs.length<=1000000)(ha:qy as) (ep:Jo [D.str (Str.ofString "rooms"),D.str (Str.ofString "asks")] (p:Int)=some (.str pt)) (sp:bY (.str pt)) (q:∀ x3 x4 x5 x6 x7 x8 x9,Q .nx [.d S,.d x1,.d K,x3,x4,x5,x6,x7,x8,x9]):iL [.d S,.d x1,.d K,.own a xs,.d (.int (p:Int)),.d x5,.d (mI num),.own b [r,as],x8,x9] Q:=by
 have w:WV 40 16777216 (.tup [r,as]):=(WV.two (n:=5) (s:=400000) (λd hd=>by
  simp only[MC,MS,Oi]at hd
  rcases hd with rfl|rfl<;>assumption) x_ v6).1
 unfold iL;walk_at "w";refine⟨x_,?_⟩;unfold oh;walk_at "w";refine⟨_,rfl,w,⟨_,rfl⟩,?_⟩;unfold og;walk_at "w";refine⟨x_,λ_=>⟨_,ep,_,pt,num,rfl,λr' a' e=>(by cases e;exact⟨hr,ha⟩),hb,sp,?_⟩⟩;walk_at "w";refine⟨_,rfl,w,⟨_,rfl⟩,?_⟩;rw[if_neg (λz=>z rfl)];exact q _ _ _ _ _ _ _
theorem IE{S K:D}{R:bO}(hR:Drawn 11 18 R){a:Addr}{xs:List D}(hx:eV xs){x4 x5 x6 x7 x8 x9:L}{Q:Fl->Ev->Prop}(q:∀x3 x4 x5 x6 x7 x8 x9,Q .nx [.d S,.d (dW R),.d K,x3,x4,x5,x6,x7,x8,x9]):iM [.d S,.d (dW R),.d K,.own a xs,x4,x5,x6,x7,x8,x9] Q:=by
 unfold iM;walk_at "w";refine⟨a,xs,2,rfl,hx,x_,x_,λp x1 hx1 p0 p1=>⟨x1,rfl,?_⟩⟩;obtain⟨p,rfl⟩:=MI p0;walk_at "w";unfold ou;walk_at "w";refine⟨a,x1,R,p,rfl,hx1,hR,xL,λd num x2 hx2 hd=>⟨x2,rfl,?_⟩⟩;walk_at "w";unfold om dW;walk_at "w";refine λ_ _=>⟨x_,λb=>?_⟩;unfold oj;have hA:∀d∈R.asks.map fU,WV 2 6000 d/\qV d:=λd hd=>by obtain⟨z,hz,rfl⟩:=ND.mp hd;exact⟨AG (hR.ok.ask z hz) hR.ok.hi (hR.nms.1 z hz) (hR.tt z hz),pA (hR.nms.1 z hz)⟩
 have hB:∀d∈R.rooms.map JX,WV 1 1300 d:=λd hd=>by obtain⟨z,hz,rfl⟩:=ND.mp hd;exact va (hR.ok.room z hz).2
 rcases(by omega:p=0∨p=1)with rfl|rfl
 .
  walk_at "w";refine⟨0,rfl,?_⟩;show fN [_,_,_,_,_,_,_,.own b [d,.lst (R.asks.map fU)],_,_] Q
  have hq:∀ pa,WV 5 400000 pa->qy pa->dz (.tup [d,pa])=some (Str.ofString "rooms",num):=λpa _ _=>by
   show(match cY d with | some k=>some (Str.ofString "rooms",k) | none=>_)=_
   rw[hd.rm rfl]
  unfold fN;walk_at "w";have s0:bY (.str (Str.ofString "rooms")):=cx (n:=0) y_ x_;rw[if_pos (by decide)];refine⟨a,x2,3,rfl,hx2,x_,x_,λu x3 hx3 _ _=>⟨x3,rfl,?_⟩⟩;walk_at "w";have wA:WV 5 400000 (.lst (R.asks.map fU)):=(WV.two (n:=2) (s:=6000) (λd hd=>(hA d hd).1) x_ (by rw[MD];have:=hR.few;omega)).2;have aA:qy (.lst (R.asks.map fU)):=λrs e=>by cases e;have:=hR.few;exact⟨by rw[MD];omega,λz hz=>(hA z hz).2⟩
  split
  . unfold ya;walk_at "w";refine⟨a,x3,R,1,rfl,hx3,hR,x_,λd2 num2 x4 hx4 hd2=>⟨x4,rfl,?_⟩⟩;walk_at "w";refine⟨1,rfl,?_⟩;show iL [_,_,_,_,_,_,_,.own b [d,d2],_,_] Q;exact G5 hd.wv hd2.wv (hq _ hd2.wv (hd2.ak rfl).2) (λrs e=>MH (hd.few rs e) x_) (hd2.ak rfl).2 rfl s0 q
  . exact G5 hd.wv wA (hq _ wA aA) (λrs e=>MH (hd.few rs e) x_) aA rfl s0 q
 .
  walk_at "w";refine⟨1,rfl,?_⟩;show fN [_,_,_,_,_,_,_,.own b [.lst (R.rooms.map JX),d],_,_] Q;have s0:bY (.str (Str.ofString "asks")):=cx (n:=0) y_ x_;have n0:=hR.ok.lo;have n1:R.rooms.length<=11:=hR.hi;have wR:WV 5 400000 (.lst (R.rooms.map JX)):=(WV.two (n:=1) (s:=1300) (λd hd=>(hB d hd)) x_ (by rw[MD];omega)).2;have bR:cY (.lst (R.rooms.map JX))=none:=jU (λq hq=>(hR.ok.room q hq).1) n0 xL
  have hq:dz (.tup [.lst (R.rooms.map JX),d])=some (Str.ofString "asks",num):=by
   show(match cY (.lst (R.rooms.map JX))with | some k=>some (Str.ofString "rooms",k) | none=>(df ((R.rooms.map JX).length:Int) d).map λk=>(Str.ofString "asks",k))=_
   rw[bR,MD];show(df (R.n:Int) d).map _=_;rw[(hd.ak rfl).1];rfl
  unfold fN;walk_at "w";rw[if_neg (by decide)];exact G5 wR hd.wv hq (λrs e=>by cases e;rw[MD];omega) (hd.ak rfl).2 rfl s0 q
theorem CW:∀ls p4,ls.length=1->fs_law ls p4->CV (ls++List.replicate 9 .un) (bS ls p4):=by
 rintro ls p4 - ⟨ns,rfl,hl,h⟩;unfold CV;walk_at "w";refine⟨ns,0,11,18,rfl,x_,x_,x_,x_,λR hR=>?_⟩;walk_at "w";unfold ye;walk_at "w"
 have hn:∃n:Nat,(if(if(43:Int)<(ns.length:Int)then(43:Int)else(ns.length:Int)) > 4 then if(43:Int)<(ns.length:Int)then(43:Int)else(ns.length:Int)else 4)=(n:Int)/\4<=n/\n<=43:=by
  by_cases c:43<ns.length
  . exact⟨43,by rw[if_pos (show(43:Int)<(ns.length:Int) by omega),if_pos (by decide)];rfl,x_,x_⟩
  .
   by_cases c2:4<ns.length
   . exact⟨ns.length,by rw[if_neg (show ¬(43:Int)<(ns.length:Int) by omega),if_pos (show(ns.length:Int) > 4 by omega)],xL,xL⟩
   . exact⟨4,by rw[if_neg (show ¬(43:Int)<(ns.length:Int) by omega),if_neg (show ¬(ns.length:Int) > 4 by omega)];rfl,x_,x_⟩
 obtain⟨n,en,n0,n1⟩:=hn;rw[en];refine⟨⟨x_,x_⟩,⟨xL,xL⟩,?_⟩;refine zG 3 _ (λj Z=>∃K x3 x4 x5 x6 x7 x8 x9,Z=[.d (.lst (ns.map .int)),.d (dW R),K,x3,x4,x5,x6,x7,x8,x9]) _ ⟨_,_,_,_,_,_,_,_,rfl⟩ ?_ ?_
 .
  rintro j Z hj ⟨K,x3,x4,x5,x6,x7,x8,x9,rfl⟩ Q q1 _ _ _;have hj:j<41:=by omega
  walk_at "w";unfold yc;walk_at "w";refine⟨ns,3+(j:Int),rfl,xL,xL,λa xs hx=>?_⟩;walk_at "w";unfold oy;walk_at "w";refine⟨a,xs,6,rfl,hx,x_,x_,λr ys hy _ _=>⟨ys,rfl,?_⟩⟩;walk_at "w";have dm:∀zs,eV zs->iM [.d (.lst (ns.map .int)),.d (dW R),.d (.int (3+(j:Int))),.own a zs,x4,x5,x6,x7,x8,x9] Q:=λzs hz=>IE hR hz λx3 x4 x5 x6 x7 x8 x9=>q1 _ ⟨_,_,_,_,_,_,_,_,rfl⟩;split
  . unfold yb;walk_at "w";refine⟨R,rfl,?_⟩;walk_at "w";refine⟨a,ys,R,rfl,hy,hR.ok,λd zs hz hd hn=>⟨zs,rfl,?_⟩⟩;walk_at "w";refine⟨d,Str.ofString "ring",none,rfl,λr a e=>absurd e (hn r a),hd,cx (n:=0) y_ x_,?_⟩;walk_at "w";exact dm zs hz
  . exact dm ys hy
 .
  rintro Z ⟨K,x3,x4,x5,x6,x7,x8,x9,rfl⟩;have nr:dz (dW R)=none:=qC hR.ok hR.nms.1 hR.nms.2;unfold yd;walk_at "w";refine⟨_,rfl,λr a e=>?_,λ_=>⟨_,aI bg,h⟩,λp k e=>by rw[nr]at e;cases e⟩;cases e;refine⟨λrs e=>?_,λas e=>?_⟩
  . cases e;have:R.rooms.length<=11:=hR.hi;rw[MD];omega
  . cases e;have:=hR.few;refine⟨by rw[MD];omega,λz hz=>?_⟩;obtain⟨y,hy,rfl⟩:=ND.mp hz;exact pA (hR.nms.1 y hy)
noncomputable abbrev fu:Stmt:=Hd.inCls (Hd.top 1) 0
noncomputable abbrev iw:FuncData:=Kt "__init__" "LoadError.__init__" fu (.str "ringloads.errors" 187) 27
noncomputable abbrev gB:Stmt:=Hd.inCls (Hd.top 3) 0
noncomputable abbrev ix:FuncData:=Kt "__init__" "NoRing.__init__" gB (.str "ringloads.errors" 187) 59
structure Tx (K:PySem.W.Frag) (mg:Str->Option Value) (ad:Nat->Addr) (fd:Nat->FuncData):Prop where
 x_greatest_shared:FX K mg "greatest_shared" cP (ad 0) (fd 0) ["one","other"]
 x_is_whole:FX K mg "is_whole" kQ (ad 1) (fd 1) ["thing"]
 x_is_number_below:FX K mg "is_number_below" cQ (ad 2) (fd 2) ["thing","many"]
 x_are_two_wholes:FX K mg "are_two_wholes" dB (ad 3) (fd 3) ["thing"]
 x_is_ratio:FX K mg "is_ratio" kT (ad 4) (fd 4) ["thing"]
 x_is_name:FX K mg "is_name" jW (ad 5) (fd 5) ["thing"]
 x_look_at_rooms:FX K mg "look_at_rooms" ee (ad 6) (fd 6) ["rooms"]
 x_is_ask:FX K mg "is_ask" pd (ad 7) (fd 7) ["thing","is_end"]
 x_look_at_each_ask:FX K mg "look_at_each_ask" cA (ad 8) (fd 8) ["asks","is_end"]
 x_look_at_asks:FX K mg "look_at_asks" cZ (ad 9) (fd 9) ["asks","places"]
 l_look_at_asks:En K "look_at_asks" (fd 9) cZ
 x_look_at_ring:FX K mg "look_at_ring" eW (ad 10) (fd 10) ["thing"]
 x__law_begun:FX K mg "_law_begun" ia (ad 11) (fd 11) ["_law_script","_law_k"]
 x__law_take:FX K mg "_law_take" jj (ad 12) (fd 12) ["_law_state","_law_many"]
 x__law_names:FX K mg "_law_names" dh (ad 13) (fd 13) ["_law_state","_law_many"]
 x__law_low:FX K mg "_law_low" kU (ad 14) (fd 14) ["_law_top","_law_bottom"]
 x__law_amount:FX K mg "_law_amount" gm (ad 15) (fd 15) ["_law_state","_law_least","_law_kind"]
 x__law_rooms:FX K mg "_law_rooms" ic (ad 16) (fd 16) ["_law_state","_law_ties","_law_kind"]
 x__law_ends:FX K mg "_law_ends" jk (ad 17) (fd 17) ["_law_state","_law_shape","_law_places","_law_k"]
 x__law_ring:FX K mg "_law_ring" jm (ad 18) (fd 18) ["_law_script","_law_at","_law_most","_law_count"]
 x__law_odd_ratio:FX K mg "_law_odd_ratio" dC (ad 19) (fd 19) ["_law_state"]
 x__law_odd_room:FX K mg "_law_odd_room" ef (ad 20) (fd 20) ["_law_state"]
 x__law_odd_name:FX K mg "_law_odd_name" eh (ad 21) (fd 21) ["_law_state"]
 x__law_odd_place:FX K mg "_law_odd_place" dD (ad 22) (fd 22) ["_law_state","_law_places"]
 x__law_odd_ask:FX K mg "_law_odd_ask" eX (ad 23) (fd 23) ["_law_state","_law_ring_here","_law_at"]
 x__law_no_list:FX K mg "_law_no_list" eY (ad 24) (fd 24) ["_law_state","_law_row"]
 x__law_bent:FX K mg "_law_bent" ej (ad 25) (fd 25) ["_law_state","_law_ring_here","_law_part"]
 x__law_refused:FX K mg "_law_refused" eZ (ad 26) (fd 26) ["_law_thing","_law_part","_law_number"]
 x__law_no_ring:FX K mg "_law_no_ring" fb (ad 27) (fd 27) ["_law_state","_law_ring_here"]
 x__law_copy:FX K mg "_law_copy" jo (ad 28) (fd 28) ["_law_ring_here"]
 x_law:FX K mg "law" Ah (ad 29) (fd 29) ["_law_script"]
 li:wY K mg 31 28 iw fu
 i_NoRing:Jv K "__init__" "NoRing.__init__" gB 60 ix
 c_NoRing:XT K mg "NoRing" 63 60 ix ["self","part","number"] ["part","number"]
 h_LoadError:XH K mg "LoadError" 31
 h_NoNumber:XH K mg "NoNumber" 44
 h_NoRing:XH K mg "NoRing" 63
 h_NoSlide:XH K mg "NoSlide" 82
 h_NoString:XH K mg "NoString" 113
 h_NoText:XH K mg "NoText" 132
 h_TooMany:XH K mg "TooMany" 94
 z_ValueError:mg "ValueError"=none
 z_abs:mg "abs"=none
 z_all:mg "all"=none
 z_bool:mg "bool"=none
 z_enumerate:mg "enumerate"=none
 z_int:mg "int"=none
 z_isinstance:mg "isinstance"=none
 z_len:mg "len"=none
 z_list:mg "list"=none
 z_max:mg "max"=none
 z_min:mg "min"=none
 z_range:mg "range"=none
 z_str:mg "str"=none
 z_tuple:mg "tuple"=none
 g_FEWEST_TIES:uO K mg "FEWEST_TIES" (.int 2)
 g_LONGEST_NAME:uO K mg "LONGEST_NAME" (.int 8)
 g_MOST_ASKS:uO K mg "MOST_ASKS" (.int 20)
 g_MOST_TIES:uO K mg "MOST_TIES" (.int 12)
section
variable{P:Program}{w:World}{K:PySem.W.Frag}{mg:Str->Option Value}{base:Heap}{ad:Nat->Addr}{fd:Nat->FuncData}
theorem mT:aO ["self","text"] ["self","text"] (aB fu):=⟨rfl,rfl,rfl,y_,rfl,y_,y_⟩
theorem qN:aO ["self","part","number"] ["self","part","number"] (aB gB):=⟨rfl,rfl,rfl,y_,rfl,y_,y_⟩
theorem qO(T:Tx K mg ad fd):FnOk P w K mg base CX0 1 28 iw ["self","text"] (FF K):=T.li.f.ok (k:=0) mT zv (λcdv A outer s H vs Q E hr q=>⟨_,vB (vC (zi rfl T.z_ValueError (br (pv 0) (br (pv 1) fx)))),BO q⟩)
theorem fO(T:Tx K mg ad fd):FnOk P w K mg base CX0 2 60 ix ["self","part","number"] (Ea K ["part","number"]):=T.i_NoRing.ok (k:=1) qN zw (λcdv A outer s H vs Q E hr q=>⟨_,sR (vC (zj T.li (qO T) hr rfl (br (pv 0) (br vA fx)))) (sR (wZ (pv 0) (pv 1)) (vB (wZ (pv 0) (pv 2)))),BP x_ q⟩)
theorem bM:aO kP ["one","other"] (aB cP):=⟨rfl,rfl,rfl,y_,rfl,y_,y_⟩
theorem ky(T:Tx K mg ad fd):FnOk P w K mg base CX0 1 (ad 0) (fd 0) ["one","other"] (spF K 2 cB) :=
 de (k:=0) T.x_greatest_shared.f bM cR (λcdv A outer s H E hr=>(ai (oN Oo (JF (uK hr.units) (af 1) ah (aU _)) (ai (aL (i:=2) bM.nd rfl v4 (aD dS (af 0) (af 1)))
  (ai (aL (i:=0) bM.nd rfl v4 (af 1))
  (au (aL (i:=1) bM.nd rfl v4 (af 2))))))
  (au (aP (bb wb rfl T.z_abs y_ (ae (af 0) ag))))))
  jr
theorem sO:aO vb ["thing"] (aB kQ):=⟨rfl,rfl,rfl,y_,rfl,y_,y_⟩
theorem jB(T:Tx K mg ad fd):FnOk P w K mg base CX0 1 (ad 1) (fd 1) ["thing"] (spF K 1 eu) :=
 de (k:=0) T.x_is_whole.f sO iI (λcdv A outer s H E hr=>(au (aP (iS (gF Bt rfl T.z_isinstance rfl T.z_int y_ (af 0)) (l9 (DF (gF tH rfl T.z_isinstance rfl T.z_bool y_ (af 0))))))))
  qH
theorem kA:aO kR ["thing","many"] (aB cQ):=⟨rfl,rfl,rfl,y_,rfl,y_,y_⟩
theorem kB(T:Tx K mg ad fd):FnOk P w K mg base CX0 2 (ad 2) (fd 2) ["thing","many"] (spF K 2 cD) :=
 de (k:=1) T.x_is_number_below.f kA cS (λcdv A outer s H E hr=>(au (aP (iS (fA (jB T) T.x_is_whole hr (ae (af 0) ag)) (l9 (tM wD F6 ah (af 0) (af 1)))))))
  jt
theorem k7:aO lE ["thing"] (aB dB):=⟨rfl,rfl,rfl,y_,rfl,y_,y_⟩
theorem k8(T:Tx K mg ad fd):FnOk P w K mg base CX0 2 (ad 3) (fd 3) ["thing"] (spF K 1 cT) :=
 de (k:=1) T.x_are_two_wholes.f k7 b9 (λcdv A outer s H E hr=>(au (aP (iS (gF mr rfl T.z_isinstance rfl T.z_tuple y_ (af 0)) (iS (gD (du hr.units) (bb fz rfl T.z_len y_ (ae (af 0) ag)) ah (aU _)) (iS (fA (jB T) T.x_is_whole hr (ae (a7 (af 0) ah (λ_ _=>rfl)) ag)) (l9 (fA (jB T) T.x_is_whole hr (ae (a7 (af 0) ah (λ_ _=>rfl)) ag)))))))))
  jY
theorem sP:aO vc ["thing"] (aB kT):=⟨rfl,rfl,rfl,y_,rfl,y_,y_⟩
theorem mU(T:Tx K mg ad fd):FnOk P w K mg base CX0 3 (ad 4) (fd 4) ["thing"] (spF K 1 gn) :=
 de (k:=2) T.x_is_ratio.f sP iJ (λcdv A outer s H E hr=>(au (aP (iS (fA (k8 T) T.x_are_two_wholes hr (ae (af 0) ag)) (iS (gD Bp (a7 (af 0) ah (λ_ _=>rfl)) ah (aU _)) (l9 (gD (du hr.units) (fA (ky T) T.x_greatest_shared hr (ae (a7 (af 0) ah (λ_ _=>rfl)) (ae (a7 (af 0) ah (λ_ _=>rfl)) ag))) ah (aU _))))))))
  qI
theorem vg:aO qE ["thing"] (aB jW):=⟨rfl,rfl,rfl,y_,rfl,y_,y_⟩
theorem vh(T:Tx K mg ad fd):FnOk P w K mg base CX0 1 (ad 5) (fd 5) ["thing"] (spF K 1 kW) :=
 de (k:=0) T.x_is_name.f vg mP (λcdv A outer s H E hr=>(ai (bN (da (cn (gF wk rfl T.z_isinstance rfl T.z_str y_ (af 0)))) (au (aP gZ)) aS)
  (au (aP (iS (tM wD wD ah (bb fz rfl T.z_len y_ (ae (af 0) ag)) (FD T.g_LONGEST_NAME rfl)) (l9 (bb (D3 rfl) rfl T.z_all y_ (ae (aC (mq (sc:=(aB jW)) (N:=qE) (Nt:=["sign"]) (Nf:=[]) (fi:=[]) rfl rfl rfl (BI (af 0)) rfl y_ y_ y_ x_ rfl y_ x_ (λ_ _ _ _=>(mj x_ (show((["sign"]:List Str)++([]:List Str)).Nodup by decide +kernel) rfl (Or.inl rfl))) (λ_ _ _ _=>mn) (λ_ _ _ _=>(wM bz (rQ.cons Ar (af 0) (rQ.one Ar bz)))))) ag))))))))
  sM
theorem dP:aO mL ["rooms"] (aB ee):=⟨rfl,rfl,rfl,y_,rfl,y_,y_⟩
theorem lN(T:Tx K mg ad fd):FnOk P w K mg base (Ki P w) 4 (ad 6) (fd 6) ["rooms"] (Km K 1 dE) :=
 w7 (k:=3) T.x_look_at_rooms.f dP (λxp=>eA xp) (λcdv A outer s H E xp hr hE=>(ai (bN (JD.pb (iR (da (cn (gF oT rfl T.z_isinstance rfl T.z_list y_ (af 0)))) (eT (da (yZ wD wD (FD T.g_FEWEST_TIES rfl) (bb fz rfl T.z_len y_ (ae (af 0) ag)) (FD T.g_MOST_TIES rfl)))))) (au (fB T.c_NoRing (fO T) hr (gh hE) (ae bz (ae bX ag)))) aS)
  (au (pY PassesOwn.leaving rfl (tN rfl T.z_enumerate (af 0)) (pV rfl (cV (i:=1) dP.nd rfl v4 (cV (i:=2) dP.nd rfl v4 ma))) (au (bN (JD.pb (iR (da (cn (fA (mU T) T.x_is_ratio hr (ae (af 2) ag)))) (eT (JF DK (a7 (af 2) ah (λ_ _=>rfl)) ah (aU _))))) (au (fB T.c_NoRing (fO T) hr (gh hE) (ae bz (ae (af 1) ag)))) aS))))))
  kX
theorem eK(T:Tx K mg ad fd):zC P w K mg base 3 "look_at_asks" bD:=El (k:=2) (p:="place") (y:="places") (T.l_look_at_asks.lam.trans rfl) (Gp rfl rfl rfl rfl rfl rfl λ_ _ _ _ _ _=>rfl) cF (λA outer s H f c c' hr=>(fA (kB T) T.x_is_number_below hr (ae (af 0) (ae (af 1) ag)))) iN
theorem yf:aO Ag ["thing","is_end"] (aB pd):=⟨rfl,rfl,rfl,y_,rfl,y_,y_⟩
theorem yg(T:Tx K mg ad fd):FnOk P w K mg base CX0 4 (ad 7) (fd 7) ["thing","is_end"] (spF K 2 mQ) :=
 de (k:=3) T.x_is_ask.f yf ph (λcdv A outer s H E hr=>(ai (bN (JD.pb (iR (da (cn (gF mr rfl T.z_isinstance rfl T.z_tuple y_ (af 0)))) (eT (JF (uK hr.units) (bb fz rfl T.z_len y_ (ae (af 0) ag)) ah (aU _))))) (au (aP gZ)) aS)
  (ai (bN (JD.pb (iR (da (cn (fA (vh T) T.x_is_name hr (ae (a7 (af 0) ah (λ_ _=>rfl)) ag)))) (eT (da (cn (fA (mU T) T.x_is_ratio hr (ae (a7 (af 0) ah (λ_ _=>rfl)) ag))))))) (au (aP gZ)) aS)
  (ai (bN (JD.pb (iR (da (cn (Ay (eK T) hr 1 (a7 (af 0) ah (λ_ _=>rfl))))) (eT (da (cn (Ay (eK T) hr 1 (a7 (af 0) ah (λ_ _=>rfl)))))))) (au (aP gZ)) aS)
  (au (aP (iS (gD (uK hr.units) (a7 (af 0) ah (λ_ _=>rfl)) (a7 (af 0) ah (λ_ _=>rfl)) (aU _)) (l9 (gD Bp (a7 (a7 (af 0) ah (λ_ _=>rfl)) ah (λ_ _=>rfl)) ah (aU _))))))))))
  ve
theorem bE:aO jX ["asks","is_end"] (aB cA):=⟨rfl,rfl,rfl,y_,rfl,y_,y_⟩
theorem jC(T:Tx K mg ad fd):FnOk P w K mg base (Ki P w) 5 (ad 8) (fd 8) ["asks","is_end"] (Km K 2 ck) :=
 w7 (k:=4) T.x_look_at_each_ask.f bE (λxp=>cG xp) (λcdv A outer s H E xp hr hE=>(ai (bN (da (cn (gF oT rfl T.z_isinstance rfl T.z_list y_ (af 0)))) (au (fB T.c_NoRing (fO T) hr (gh hE) (ae bz (ae bX ag)))) aS)
  (ai (aL (i:=2) bE.nd rfl v4 BZ)
  (au (pY PassesOwn.leaving rfl (tN rfl T.z_enumerate (af 0)) (pV rfl (cV (i:=3) bE.nd rfl v4 (cV (i:=4) bE.nd rfl v4 ma))) (ai (bN (JD.pb (iR (da (cn (fA (yg T) T.x_is_ask hr (ae (af 4) (ae (af 1) ag))))) (eT (Eh 2 (a7 (af 4) ah (λ_ _=>rfl)) rfl)))) (au (fB T.c_NoRing (fO T) hr (gh hE) (ae bz (ae (af 3) ag)))) aS)
  (au (BY 2 (a7 (af 4) ah (λ_ _=>rfl)) gZ))))))))
  iO
theorem mV:aO ny ["asks","places"] (aB cZ):=⟨rfl,rfl,rfl,y_,rfl,y_,y_⟩
theorem mW(T:Tx K mg ad fd):FnOk P w K mg base (Ki P w) 6 (ad 9) (fd 9) ["asks","places"] (Km K 2 eB) :=
 B7 (k:=5) T.x_look_at_asks.f mV (λxp=>ff xp) (λcdv A outer s H E xp hcv hr hE=>(ai (bN (JD.pb (oK (cn (gF oT rfl T.z_isinstance rfl T.z_list y_ (af 0))) (lS (JF yP (bb fz rfl T.z_len y_ (ae (af 0) ag)) (FD T.g_MOST_ASKS rfl) (aU _))))) (au (fB T.c_NoRing (fO T) hr (gh hE) (ae bz (ae bX ag)))) aS)
  (au (kD (B8 (jC T) T.x_look_at_each_ask hr (gh hE) 1 (Eo T.l_look_at_asks hcv rfl x_ rfl rfl rfl rfl rfl rfl) (af 0))))))
  lH
theorem mX:aO nB ["thing"] (aB eW):=⟨rfl,rfl,rfl,y_,rfl,y_,y_⟩
theorem iy(T:Tx K mg ad fd):FnOk P w K mg base (Ki P w) 7 (ad 10) (fd 10) ["thing"] (Km K 1 cH) :=
 w7 (k:=6) T.x_look_at_ring.f mX (λxp=>fg xp) (λcdv A outer s H E xp hr hE=>(ai (bN (JD.pb (iR (da (cn (gF mr rfl T.z_isinstance rfl T.z_tuple y_ (af 0)))) (eT (JF (uK hr.units) (bb fz rfl T.z_len y_ (ae (af 0) ag)) ah (aU _))))) (au (fB T.c_NoRing (fO T) hr (gh hE) (ae bz (ae bX ag)))) aS)
  (ai (kD (xb (lN T) T.x_look_at_rooms hr (gh hE) (ae (a7 (af 0) ah (λ_ _=>rfl)) ag)))
  (au (kD (xb (mW T) T.x_look_at_asks hr (gh hE) (ae (a7 (af 0) ah (λ_ _=>rfl)) (ae (aC (bb fz rfl T.z_len y_ (ae (a7 (af 0) ah (λ_ _=>rfl)) ag))) ag))))))))
  lI
theorem gC:aO qF ["_law_script","_law_k"] (aB ia):=⟨rfl,rfl,rfl,y_,rfl,y_,y_⟩
theorem dX(T:Tx K mg ad fd):FnOk P w K mg base CX0 1 (ad 11) (fd 11) ["_law_script","_law_k"] (spF K 2 bT) :=
 de (k:=0) T.x__law_begun.f gC ie (λcdv A outer s H E hr=>(ai (aL (i:=2) gC.nd rfl v4 ah)
  (ai (bN (JF Bo (af 1) (bb fz rfl T.z_len y_ (ae (af 0) ag)) (aU _)) (au (aL (i:=2) gC.nd rfl v4 (a7 (af 0) (af 1) (λ_ _=>rfl)))) aS)
  (au (aP (bh (ae (af 2) (ae (aD dS (aD aZ (aD aZ (aD dS (af 2) ah) (aD hZ (aD hZ ah (af 1)) (af 1))) ah) ah) (ae (gD Bp (af 2) (aD p7 ah ah) (aU _)) ag)))))))))
  nG
theorem di:aO sH ["_law_state","_law_many"] (aB jj):=⟨rfl,rfl,rfl,y_,rfl,y_,y_⟩
theorem aq(T:Tx K mg ad fd):FnOk P w K mg base CX0 1 (ad 12) (fd 12) ["_law_state","_law_many"] (spF K 2 aj) :=
 de (k:=0) T.x__law_take.f di ju (λcdv A outer s H E hr=>(ai (bN (cn (gG (iT 0 ah (λ_ _=>rfl)) (a7 (af 0) ah (λ_ _=>rfl)))) (ai (aL (i:=2) di.nd rfl v4 (aD dS (gG (iT 0 ah (λ_ _=>rfl)) (a7 (af 0) ah (λ_ _=>rfl))) (af 1)))
  (ai (mi 0 ah (aD p6 (gG (iT 0 ah (λ_ _=>rfl)) (a7 (af 0) ah (λ_ _=>rfl))) (af 1)))
  (ai (mi 0 ah (gD yP (gG (iT 0 ah (λ_ _=>rfl)) (a7 (af 0) ah (λ_ _=>rfl))) ah (aU _)))
  (au (aP (v8 2)))))) aS)
  (ai (aL (i:=3) di.nd rfl v4 ah)
  (ai (pY Oo rfl (iE rfl T.z_range (aD aZ ah (aD hZ ah (bQ Ao rfl T.z_int y_ (ae (gD yP (af 1) (aD p7 ah ah) (aU _)) ag))))) (rH (i:=4) di.nd rfl v4) (ai (mi 0 ah (aD dS (aD aZ (aD hZ (gG (iT 0 ah (λ_ _=>rfl)) (a7 (af 0) ah (λ_ _=>rfl))) ah) ah) ah))
  (au (aL (i:=3) di.nd rfl v4 (aC (aD aZ (aD hZ (af 3) ah) (aD dS (aD hZ (gG (iT 0 ah (λ_ _=>rfl)) (a7 (af 0) ah (λ_ _=>rfl))) (gG (iT 0 ah (λ_ _=>rfl)) (a7 (af 0) ah (λ_ _=>rfl)))) ah)))))))
  (au (aP (aD dS (aD p6 (af 3) ah) (af 1))))))))
  pj
theorem cJ:aO ib ["_law_state","_law_many"] (aB dh):=⟨rfl,rfl,rfl,y_,rfl,y_,y_⟩
theorem pD(T:Tx K mg ad fd):FnOk P w K mg base CX0 2 (ad 13) (fd 13) ["_law_state","_law_many"] (spF K 2 gu) :=
 de (k:=1) T.x__law_names.f cJ ig (λcdv A outer s H E hr=>(ai (aL (i:=2) cJ.nd rfl v4 bz)
  (ai (aL (i:=3) cJ.nd rfl v4 (aC (By (mq (sc:=(aB dh)) (N:=ib) (Nt:=["_law_k"]) (Nf:=["_law_letters","_law_state"]) (fi:=[2,0]) rfl rfl rfl (iE rfl T.z_range (aD aZ ah (aN (aq T) T.x__law_take hr 0 0 (aF 0 (ae ah ag))))) rfl y_ y_ y_ x_ rfl y_ x_ (λ_ _ _ _=>(mj x_ (show((["_law_k"]:List Str)++(["_law_letters","_law_state"]:List Str)).Nodup by decide +kernel) rfl (Or.inl rfl))) (λ_ _ _ _=>mn) (λ_ _ _ _=>(a7 (af 1) (aN (aq T) T.x__law_take hr 0 2 (aF 2 (ae ah ag))) (λ_ _=>rfl)))))))
  (ai (aL (i:=4) cJ.nd rfl v4 (aC (aN (aq T) T.x__law_take hr 0 0 (aF 0 (ae (aC (bb fz rfl T.z_len y_ (ae (af 3) ag))) ag)))))
  (ai (aL (i:=5) cJ.nd rfl v4 (aC (aN (aq T) T.x__law_take hr 0 0 (aF 0 (ae ah ag)))))
  (au (aP (mq (sc:=(aB dh)) (N:=ib) (Nt:=["_law_k"]) (Nf:=["_law_base","_law_at","_law_letters","_law_turn"]) (fi:=[3,4,2,5]) rfl rfl rfl (iE rfl T.z_range (af 1)) rfl y_ y_ y_ x_ rfl y_ x_ (λ_ _ _ _=>(mj x_ (show((["_law_k"]:List Str)++(["_law_base","_law_at","_law_letters","_law_turn"]:List Str)).Nodup by decide +kernel) rfl (Or.inl rfl))) (λ_ _ _ _=>mn) (λ_ _ _ _=>(aD aZ (aD aZ (d8 (af 1) trivial (af 2)) (a7 (af 3) (aD dS (aD aZ (af 4) (af 0)) ah) (λ_ _=>rfl))) (d8 (af 1) (aD aZ (af 2) ah) trivial)))))))))))
  nH
theorem eL:aO vd ["_law_top","_law_bottom"] (aB kU):=⟨rfl,rfl,rfl,y_,rfl,y_,y_⟩
theorem sQ(T:Tx K mg ad fd):FnOk P w K mg base CX0 1 (ad 14) (fd 14) ["_law_top","_law_bottom"] (spF K 2 jv) :=
 de (k:=0) T.x__law_low.f eL kY (λcdv A outer s H E hr=>(ai (aL (i:=2) eL.nd rfl v4 (aC (bb wb rfl T.z_abs y_ (ae (af 0) ag))))
  (ai (aL (i:=3) eL.nd rfl v4 (aC (bb wb rfl T.z_abs y_ (ae (af 1) ag))))
  (ai (oN Oo (JF (uK hr.units) (af 2) ah (aU _)) (au (DP (i:=2) (j:=3) rfl eL.nd rfl rfl x_ rfl rfl (aD dS (af 3) (af 2)) (af 2) rfl)))
  (ai (bN (JF Bo (af 1) ah (aU _)) (au (aL (i:=3) eL.nd rfl v4 (aD gE ah (af 3)))) aS)
  (au (aP (aR (ae (aD p6 (af 0) (af 3)) (ae (aD p6 (af 1) (af 3)) ag))))))))))
  qL
theorem fv:aO pf ["_law_state","_law_least","_law_kind"] (aB gm):=⟨rfl,rfl,rfl,y_,rfl,y_,y_⟩
theorem c5(T:Tx K mg ad fd):FnOk P w K mg base CX0 2 (ad 15) (fd 15) ["_law_state","_law_least","_law_kind"] (spF K 3 bK) :=
 de (k:=1) T.x__law_amount.f fv gv (λcdv A outer s H E hr=>by exact(@ai _ _ _ _ _ (@aL _ _ _ 3 _ _ _ fv.nd rfl v4 (@aC _ _ _ (@aD _ _ _ _ _ _ _ _ aZ ah (aN (aq T) T.x__law_take hr 0 0 (aF 0 (@ae _ _ _ _ _ _ (@a7 _ _ _ _ _ _ (@bh _ _ _ _ _ (@ae _ _ _ _ _ _ ah (@ae _ _ _ _ _ _ ah (@ae _ _ _ _ _ _ ah (@ae _ _ _ _ _ _ ah (@ae _ _ _ _ _ _ ah ag z_) z_) z_) z_) z_)) (af 2) (λ_ _=>rfl)) ag z_))))) z_ (by first | exact .inl rfl | exact .inr rfl)) (@ai _ _ _ _ _ (@aL _ _ _ 4 _ _ _ fv.nd rfl v4 (@aC _ _ _ (@aD _ _ _ _ _ _ _ _ aZ (af 1) (aN (aq T) T.x__law_take hr 0 0 (aF 0 (@ae _ _ _ _ _ _ (@a7 _ _ _ _ _ _ (@bh _ _ _ _ _ (@ae _ _ _ _ _ _ ah (@ae _ _ _ _ _ _ ah (@ae _ _ _ _ _ _ ah (@ae _ _ _ _ _ _ ah (@ae _ _ _ _ _ _ (@aD _ _ _ _ _ _ _ _ p7 ah ah) ag z_) z_) z_) z_) z_)) (af 2) (λ_ _=>rfl)) ag z_))))) z_ (by first | exact .inl rfl | exact .inr rfl)) (@au _ _ _ (@aP _ _ _ _ (fA (sQ T) T.x__law_low hr (@ae _ _ _ _ _ _ (af 4) (@ae _ _ _ _ _ _ (af 3) ag z_) z_)))))))
  mR
theorem bW:aO qG ["_law_state","_law_ties","_law_kind"] (aB ic):=⟨rfl,rfl,rfl,y_,rfl,y_,y_⟩
theorem pE(T:Tx K mg ad fd):FnOk P w K mg base CX0 3 (ad 16) (fd 16) ["_law_state","_law_ties","_law_kind"] (spF K 3 gw) :=
 de (k:=2) T.x__law_rooms.f bW ip (λcdv A outer s H E hr=>(ai (aL (i:=3) bW.nd rfl v4 (aC (aN (aq T) T.x__law_take hr 0 0 (aF 0 (ae ah ag)))))
  (ai (aL (i:=4) bW.nd rfl v4 (aC (aN (c5 T) T.x__law_amount hr 0 0 (aF 0 (ae ah (ae (af 2) ag))))))
  (ai (bN (JF (du hr.units) (af 3) ah (aU _)) (au (aL (i:=4) bW.nd rfl v4 (aR (ae ah (ae ah ag))))) aS)
  (ai (aL (i:=5) bW.nd rfl v4 (bh (ae (af 4) ag)))
  (ai (oN Oo (JF Bo (gG (wd 5 rfl T.z_len) (bb fz rfl T.z_len PySem.boot_len (ae (af 5) ag))) (af 1) (aU _)) (ai (aL (i:=6) bW.nd rfl v4 (aC (aN (c5 T) T.x__law_amount hr 0 0 (aF 0 (ae ah (ae (af 2) ag))))))
  (au (kD (p8 5 (a7 (bh (ae (af 4) (ae (af 6) ag))) (bQ Ao rfl T.z_int y_ (ae (gD (du hr.units) (af 3) ah (aU _)) ag)) (λ_ _=>rfl)))))))
  (au (aP (v8 5)))))))))
  nI
theorem iz:aO sI ["_law_state","_law_shape","_law_places","_law_k"] (aB jk):=⟨rfl,rfl,rfl,y_,rfl,y_,y_⟩
theorem qP(T:Tx K mg ad fd):FnOk P w K mg base CX0 2 (ad 17) (fd 17) ["_law_state","_law_shape","_law_places","_law_k"] (spF K 4 iq) :=
 de (k:=1) T.x__law_ends.f iz jw (λcdv A outer s H E hr=>(ai (aL (i:=4) iz.nd rfl v4 (aC (aN (aq T) T.x__law_take hr 0 0 (aF 0 (ae (af 2) ag)))))
  (ai (aL (i:=5) iz.nd rfl v4 (aD dS (aD aZ (aD aZ (af 4) ah) (aN (aq T) T.x__law_take hr 0 0 (aF 0 (ae (aD gE (af 2) ah) ag)))) (af 2)))
  (ai (bN (JF (du hr.units) (af 1) ah (aU _)) (au (aP (aR (ae (aD dS (af 3) (af 2)) (ae (aD dS (aD aZ (af 3) (aD p6 (af 2) ah)) (af 2)) ag))))) aS)
  (ai (bN (JF (du hr.units) (af 1) ah (aU _)) (au (aP (aR (ae (aC (aD hZ (aD dS (af 3) ah) (aD gE (af 2) ah))) (ae (aC (aD hZ (aD gE ah (aD dS (af 3) ah)) (aD gE (af 2) ah))) ag))))) aS)
  (ai (bN (JF (du hr.units) (af 1) ah (aU _)) (au (aP (aR (ae ah (ae (aC (aD aZ ah (aD dS (af 5) (aD gE (af 2) ah)))) ag))))) aS)
  (au (aP (aR (ae (af 4) (ae (af 5) ag)))))))))))
  pk
theorem aX:aO sJ ["_law_script","_law_at","_law_most","_law_count"] (aB jm):=⟨rfl,rfl,rfl,y_,rfl,y_,y_⟩
theorem qQ(T:Tx K mg ad fd):FnOk P w K mg base CX0 4 (ad 18) (fd 18) ["_law_script","_law_at","_law_most","_law_count"] (spF K 4 ir) :=
 de (k:=3) T.x__law_ring.f aX jx (λcdv A outer s H E hr=>by exact(@ai _ _ _ _ _ (@aL _ _ _ 4 _ _ _ aX.nd rfl v4 (fA (dX T) T.x__law_begun hr (@ae _ _ _ _ _ _ (af 0) (@ae _ _ _ _ _ _ (af 1) ag z_) z_)) z_ (by first | exact .inl rfl | exact .inr rfl)) (@ai _ _ _ _ _ (@aL _ _ _ 5 _ _ _ aX.nd rfl v4 (@aC _ _ _ (@aD _ _ _ _ _ _ _ _ aZ ah (aN (aq T) T.x__law_take hr 0 4 (aF 4 (@ae _ _ _ _ _ _ (@aD _ _ _ _ _ _ _ _ gE (af 2) ah) ag z_))))) z_ (by first | exact .inl rfl | exact .inr rfl)) (@ai _ _ _ _ _ (@aL _ _ _ 6 _ _ _ aX.nd rfl v4 (@aC _ _ _ (aN (aq T) T.x__law_take hr 0 4 (aF 4 (@ae _ _ _ _ _ _ (@aC _ _ _ (@aD _ _ _ _ _ _ _ _ aZ (af 3) ah)) ag z_)))) z_ (by first | exact .inl rfl | exact .inr rfl)) (@ai _ _ _ _ _ (@aL _ _ _ 7 _ _ _ aX.nd rfl v4 (@aC _ _ _ (@bh _ _ _ _ _ (@ae _ _ _ _ _ _ (@aC _ _ _ (aN (aq T) T.x__law_take hr 0 4 (aF 4 (@ae _ _ _ _ _ _ ah ag z_)))) (@ae _ _ _ _ _ _ (@aC _ _ _ (aN (aq T) T.x__law_take hr 0 4 (aF 4 (@ae _ _ _ _ _ _ ah ag z_)))) ag z_) z_))) z_ (by first | exact .inl rfl | exact .inr rfl)) (@ai _ _ _ _ _ (@aL _ _ _ 8 _ _ _ aX.nd rfl v4 (@aC _ _ _ (aN (aq T) T.x__law_take hr 0 4 (aF 4 (@ae _ _ _ _ _ _ ah ag z_)))) z_ (by first | exact .inl rfl | exact .inr rfl)) (@ai _ _ _ _ _ (@aL _ _ _ 9 _ _ _ aX.nd rfl v4 (@aC _ _ _ (aN (pD T) T.x__law_names hr 0 4 (aF 4 (@ae _ _ _ _ _ _ (af 6) ag z_)))) z_ (by first | exact .inl rfl | exact .inr rfl)) (@ai _ _ _ _ _ (@aL _ _ _ 10 _ _ _ aX.nd rfl v4 (@aC _ _ _ (fA (pE T) T.x__law_rooms hr (@ae _ _ _ _ _ _ (fA (dX T) T.x__law_begun hr (@ae _ _ _ _ _ _ (af 0) (@ae _ _ _ _ _ _ (@aC _ _ _ (@aD _ _ _ _ _ _ _ _ aZ (af 1) ah)) ag z_) z_)) (@ae _ _ _ _ _ _ (af 5) (@ae _ _ _ _ _ _ (@a7 _ _ _ _ _ _ (af 7) ah (λ_ _=>rfl)) ag z_) z_) z_))) z_ (by first | exact .inl rfl | exact .inr rfl)) (@ai _ _ _ _ _ (@aL _ _ _ 4 _ _ _ aX.nd rfl v4 (fA (dX T) T.x__law_begun hr (@ae _ _ _ _ _ _ (af 0) (@ae _ _ _ _ _ _ (@aC _ _ _ (@aD _ _ _ _ _ _ _ _ aZ (af 1) ah)) ag z_) z_)) z_ (by first | exact .inl rfl | exact .inr rfl)) (@ai _ _ _ _ _ (@aL _ _ _ 11 _ _ _ aX.nd rfl v4 (@bh _ _ _ _ _ ag) z_ (by first | exact .inl rfl | exact .inr rfl)) (@ai _ _ _ _ _ (pY Oo rfl (iE rfl T.z_range (af 6)) (rH (i:=12) aX.nd rfl v4) (@ai _ _ _ _ _ (rL (pV rfl (cV (i:=13) aX.nd rfl v4 (cV (i:=14) aX.nd rfl v4 ma))) (aN (qP T) T.x__law_ends hr 0 4 (aF 4 (@ae _ _ _ _ _ _ (af 8) (@ae _ _ _ _ _ _ (af 5) (@ae _ _ _ _ _ _ (af 12) ag z_) z_) z_)))) (@au _ _ _ (kD (p8 11 (@aR _ _ _ _ _ _ (@ae _ _ _ _ _ _ (@a7 _ _ _ _ _ _ (af 9) (af 12) (λ_ _=>rfl)) (@ae _ _ _ _ _ _ (af 13) (@ae _ _ _ _ _ _ (af 14) (@ae _ _ _ _ _ _ (@aC _ _ _ (aN (c5 T) T.x__law_amount hr 0 4 (aF 4 (@ae _ _ _ _ _ _ ah (@ae _ _ _ _ _ _ (@a7 _ _ _ _ _ _ (af 7) ah (λ_ _=>rfl)) ag z_) z_)))) ag z_) z_) z_) z_))))))) (@au _ _ _ (@aP _ _ _ _ (@aR _ _ _ _ _ _ (@ae _ _ _ _ _ _ (af 10) (@ae _ _ _ _ _ _ (af 11) ag z_) z_)))))))))))))))
  pw
theorem fP:aO lF ["_law_state"] (aB dC):=⟨rfl,rfl,rfl,y_,rfl,y_,y_⟩
theorem fQ(T:Tx K mg ad fd):FnOk P w K mg base CX0 2 (ad 19) (fd 19) ["_law_state"] (spF K 1 bU) :=
 de (k:=1) T.x__law_odd_ratio.f fP dF (λcdv A outer s H E hr=>by exact(@ai _ _ _ _ _ (@aL _ _ _ 1 _ _ _ fP.nd rfl v4 (@aC _ _ _ (@bh _ _ _ _ _ (@ae _ _ _ _ _ _ (@aR _ _ _ _ _ _ (@ae _ _ _ _ _ _ ah (@ae _ _ _ _ _ _ ah ag z_) z_)) (@ae _ _ _ _ _ _ (@aR _ _ _ _ _ _ (@ae _ _ _ _ _ _ ah (@ae _ _ _ _ _ _ ah ag z_) z_)) (@ae _ _ _ _ _ _ (@aR _ _ _ _ _ _ (@ae _ _ _ _ _ _ ah (@ae _ _ _ _ _ _ ah ag z_) z_)) (@ae _ _ _ _ _ _ (@aR _ _ _ _ _ _ (@ae _ _ _ _ _ _ ah (@ae _ _ _ _ _ _ (nM ah) ag z_) z_)) (@ae _ _ _ _ _ _ (@aR _ _ _ _ _ _ (@ae _ _ _ _ _ _ (nM ah) (@ae _ _ _ _ _ _ (nM ah) ag z_) z_)) (@ae _ _ _ _ _ _ (@aR _ _ _ _ _ _ (@ae _ _ _ _ _ _ gZ (@ae _ _ _ _ _ _ ah ag z_) z_)) (@ae _ _ _ _ _ _ (@aR _ _ _ _ _ _ (@ae _ _ _ _ _ _ ah (@ae _ _ _ _ _ _ gZ ag z_) z_)) (@ae _ _ _ _ _ _ (@aR _ _ _ _ _ _ (@ae _ _ _ _ _ _ ah ag z_)) (@ae _ _ _ _ _ _ (@aR _ _ _ _ _ _ (@ae _ _ _ _ _ _ ah (@ae _ _ _ _ _ _ ah (@ae _ _ _ _ _ _ ah ag z_) z_) z_)) (@ae _ _ _ _ _ _ (@aC _ _ _ (@bh _ _ _ _ _ (@ae _ _ _ _ _ _ ah (@ae _ _ _ _ _ _ ah ag z_) z_))) (@ae _ _ _ _ _ _ ah (@ae _ _ _ _ _ _ bX (@ae _ _ _ _ _ _ bz ag z_) z_) z_) z_) z_) z_) z_) z_) z_) z_) z_) z_) z_))) z_ (by first | exact .inl rfl | exact .inr rfl)) (@au _ _ _ (@aP _ _ _ _ (@a7 _ _ _ _ _ _ (@aD _ _ _ _ _ _ _ _ aZ (af 1) (@bh _ _ _ _ _ (@ae _ _ _ _ _ _ (@aR _ _ _ _ _ _ (@ae _ _ _ _ _ _ bX (@ae _ _ _ _ _ _ ah ag z_) z_)) (@ae _ _ _ _ _ _ (@aR _ _ _ _ _ _ (@ae _ _ _ _ _ _ bz (@ae _ _ _ _ _ _ ah ag z_) z_)) (@ae _ _ _ _ _ _ jN (@ae _ _ _ _ _ _ (@aR _ _ _ _ _ _ (@ae _ _ _ _ _ _ (@aR _ _ _ _ _ _ (@ae _ _ _ _ _ _ ah (@ae _ _ _ _ _ _ ah ag z_) z_)) (@ae _ _ _ _ _ _ ah ag z_) z_)) ag z_) z_) z_) z_))) (aN (aq T) T.x__law_take hr 0 0 (aF 0 (@ae _ _ _ _ _ _ ah ag z_))) (λ_ _=>rfl))))))
  ki
theorem lO:aO mM ["_law_state"] (aB ef):=⟨rfl,rfl,rfl,y_,rfl,y_,y_⟩
theorem lP(T:Tx K mg ad fd):FnOk P w K mg base CX0 3 (ad 20) (fd 20) ["_law_state"] (spF K 1 dG) :=
 de (k:=2) T.x__law_odd_room.f lO eD (λcdv A outer s H E hr=>(ai (bN (JF (du hr.units) (aN (aq T) T.x__law_take hr 0 0 (aF 0 (ae ah ag))) ah (aU _)) (au (aP (a7 (bh (ae (aR (ae ah (ae ah ag))) (ae (aR (ae (nM ah) (ae ah ag))) (ae (aR (ae (aD gE (aD gE ah ah) (aN (aq T) T.x__law_take hr 0 0 (aF 0 (ae (aD p7 ah ah) ag)))) (ae ah ag))) ag)))) (aN (aq T) T.x__law_take hr 0 0 (aF 0 (ae ah ag))) (λ_ _=>rfl)))) aS)
  (au (aP (aN (fQ T) T.x__law_odd_ratio hr 0 0 (aF 0 ag))))))
  kZ
theorem cb:aO mN ["_law_state"] (aB eh):=⟨rfl,rfl,rfl,y_,rfl,y_,y_⟩
theorem lQ(T:Tx K mg ad fd):FnOk P w K mg base CX0 2 (ad 21) (fd 21) ["_law_state"] (spF K 1 dH) :=
 de (k:=1) T.x__law_odd_name.f cb eE (λcdv A outer s H E hr=>by exact(@ai _ _ _ _ _ (@aL _ _ _ 1 _ _ _ cb.nd rfl v4 bz z_ (by first | exact .inl rfl | exact .inr rfl)) (@ai _ _ _ _ _ (@aL _ _ _ 2 _ _ _ cb.nd rfl v4 (@a7 _ _ _ _ _ _ (af 1) (aN (aq T) T.x__law_take hr 0 0 (aF 0 (@ae _ _ _ _ _ _ ah ag z_))) (λ_ _=>rfl)) z_ (by first | exact .inl rfl | exact .inr rfl)) (@ai _ _ _ _ _ (@aL _ _ _ 3 _ _ _ cb.nd rfl v4 (@aC _ _ _ (@bh _ _ _ _ _ (@ae _ _ _ _ _ _ bz (@ae _ _ _ _ _ _ (@aC _ _ _ (@aD _ _ _ _ _ _ _ _ Cb (af 2) ah)) (@ae _ _ _ _ _ _ (@aC _ _ _ (@aD _ _ _ _ _ _ _ _ aZ (af 2) bz)) (@ae _ _ _ _ _ _ (@aC _ _ _ (@aD _ _ _ _ _ _ _ _ aZ (af 2) bz)) (@ae _ _ _ _ _ _ bz (@ae _ _ _ _ _ _ bz (@ae _ _ _ _ _ _ (@aC _ _ _ (@aD _ _ _ _ _ _ _ _ aZ (af 2) bz)) (@ae _ _ _ _ _ _ (@aC _ _ _ (zF (af 2))) (@ae _ _ _ _ _ _ bX (@ae _ _ _ _ _ _ ah (@ae _ _ _ _ _ _ gZ ag z_) z_) z_) z_) z_) z_) z_) z_) z_) z_) z_))) z_ (by first | exact .inl rfl | exact .inr rfl)) (@au _ _ _ (@aP _ _ _ _ (@a7 _ _ _ _ _ _ (@aD _ _ _ _ _ _ _ _ aZ (af 3) (@bh _ _ _ _ _ (@ae _ _ _ _ _ _ (@aC _ _ _ (@bh _ _ _ _ _ (@ae _ _ _ _ _ _ (af 2) ag z_))) (@ae _ _ _ _ _ _ (@aR _ _ _ _ _ _ (@ae _ _ _ _ _ _ (af 2) ag z_)) (@ae _ _ _ _ _ _ jN (@ae _ _ _ _ _ _ (@aC _ _ _ (@aD _ _ _ _ _ _ _ _ aZ bz (af 2))) (@ae _ _ _ _ _ _ bz ag z_) z_) z_) z_) z_))) (aN (aq T) T.x__law_take hr 0 0 (aF 0 (@ae _ _ _ _ _ _ ah ag z_))) (λ_ _=>rfl))))))))
  k6
theorem fR:aO lG ["_law_state","_law_places"] (aB dD):=⟨rfl,rfl,rfl,y_,rfl,y_,y_⟩
theorem fS(T:Tx K mg ad fd):FnOk P w K mg base CX0 2 (ad 22) (fd 22) ["_law_state","_law_places"] (spF K 2 bV) :=
 de (k:=1) T.x__law_odd_place.f fR dJ (λcdv A outer s H E hr=>by exact(@ai _ _ _ _ _ (@aL _ _ _ 2 _ _ _ fR.nd rfl v4 (@aC _ _ _ (@bh _ _ _ _ _ (@ae _ _ _ _ _ _ (nM ah) (@ae _ _ _ _ _ _ (af 1) (@ae _ _ _ _ _ _ (@aC _ _ _ (@aD _ _ _ _ _ _ _ _ aZ (af 1) (aN (aq T) T.x__law_take hr 0 0 (aF 0 (@ae _ _ _ _ _ _ (@aD _ _ _ _ _ _ _ _ p7 ah ah) ag z_))))) (@ae _ _ _ _ _ _ (@aD _ _ _ _ _ _ _ _ gE ah (af 1)) (@ae _ _ _ _ _ _ gZ (@ae _ _ _ _ _ _ gZ (@ae _ _ _ _ _ _ bX (@ae _ _ _ _ _ _ bz (@ae _ _ _ _ _ _ (@aR _ _ _ _ _ _ (@ae _ _ _ _ _ _ ah ag z_)) (@ae _ _ _ _ _ _ (@aC _ _ _ (@bh _ _ _ _ _ (@ae _ _ _ _ _ _ ah ag z_))) ag z_) z_) z_) z_) z_) z_) z_) z_) z_) z_))) z_ (by first | exact .inl rfl | exact .inr rfl)) (@au _ _ _ (@aP _ _ _ _ (@a7 _ _ _ _ _ _ (af 2) (aN (aq T) T.x__law_take hr 0 0 (aF 0 (@ae _ _ _ _ _ _ ah ag z_))) (λ_ _=>rfl))))))
  kj
theorem a6:aO nC ["_law_state","_law_ring_here","_law_at"] (aB eX):=⟨rfl,rfl,rfl,y_,rfl,y_,y_⟩
theorem mY(T:Tx K mg ad fd):FnOk P w K mg base CX0 3 (ad 23) (fd 23) ["_law_state","_law_ring_here","_law_at"] (spF K 3 eF) :=
 de (k:=2) T.x__law_odd_ask.f a6 fj (λcdv A outer s H E hr=>by exact(@ai _ _ _ _ _ (@aL _ _ _ 3 _ _ _ a6.nd rfl v4 (@aC _ _ _ (bb fz rfl T.z_len y_ (@ae _ _ _ _ _ _ (@a7 _ _ _ _ _ _ (af 1) ah (λ_ _=>rfl)) ag z_))) z_ (by first | exact .inl rfl | exact .inr rfl)) (@ai _ _ _ _ _ (@aL _ _ _ 4 _ _ _ a6.nd rfl v4 bz z_ (by first | exact .inl rfl | exact .inr rfl)) (@ai _ _ _ _ _ (@aL _ _ _ 5 _ _ _ a6.nd rfl v4 (@aC _ _ _ (aN (aq T) T.x__law_take hr 0 0 (aF 0 (@ae _ _ _ _ _ _ (af 3) ag z_)))) z_ (by first | exact .inl rfl | exact .inr rfl)) (@ai _ _ _ _ _ (@aL _ _ _ 6 _ _ _ a6.nd rfl v4 (@aD _ _ _ _ _ _ _ _ dS (@aD _ _ _ _ _ _ _ _ aZ (@aD _ _ _ _ _ _ _ _ aZ (af 5) ah) (aN (aq T) T.x__law_take hr 0 0 (aF 0 (@ae _ _ _ _ _ _ (@aD _ _ _ _ _ _ _ _ gE (af 3) ah) ag z_)))) (af 3)) z_ (by first | exact .inl rfl | exact .inr rfl)) (@ai _ _ _ _ _ (@aL _ _ _ 7 _ _ _ a6.nd rfl v4 (@aC _ _ _ (aN (c5 T) T.x__law_amount hr 0 0 (aF 0 (@ae _ _ _ _ _ _ ah (@ae _ _ _ _ _ _ ah ag z_) z_)))) z_ (by first | exact .inl rfl | exact .inr rfl)) (@ai _ _ _ _ _ (@aL _ _ _ 8 _ _ _ a6.nd rfl v4 (@aC _ _ _ (aN (aq T) T.x__law_take hr 0 0 (aF 0 (@ae _ _ _ _ _ _ ah ag z_)))) z_ (by first | exact .inl rfl | exact .inr rfl)) (@ai _ _ _ _ _ (@bN _ _ _ _ _ _ _ _ (JF (du hr.units) (af 8) ah (aU _)) (@au _ _ _ (@aP _ _ _ _ (@aR _ _ _ _ _ _ (@ae _ _ _ _ _ _ (@aC _ _ _ (aN (lQ T) T.x__law_odd_name hr 0 0 (aF 0 ag))) (@ae _ _ _ _ _ _ (af 5) (@ae _ _ _ _ _ _ (af 6) (@ae _ _ _ _ _ _ (af 7) ag z_) z_) z_) z_)))) aS) (@ai _ _ _ _ _ (@bN _ _ _ _ _ _ _ _ (JD.pb (oK (JF (du hr.units) (af 8) ah (aU _)) (lS (JF yP (af 2) ah (aU _))))) (@au _ _ _ (@aP _ _ _ _ (@aR _ _ _ _ _ _ (@ae _ _ _ _ _ _ (@a7 _ _ _ _ _ _ (@a7 _ _ _ _ _ _ (@a7 _ _ _ _ _ _ (af 1) ah (λ_ _=>rfl)) (aN (aq T) T.x__law_take hr 0 0 (aF 0 (@ae _ _ _ _ _ _ (af 2) ag z_))) (λ_ _=>rfl)) ah (λ_ _=>rfl)) (@ae _ _ _ _ _ _ (af 5) (@ae _ _ _ _ _ _ (af 6) (@ae _ _ _ _ _ _ (af 7) ag z_) z_) z_) z_)))) aS) (@ai _ _ _ _ _ (@bN _ _ _ _ _ _ _ _ (JF (du hr.units) (af 8) ah (aU _)) (@au _ _ _ (@aP _ _ _ _ (@aR _ _ _ _ _ _ (@ae _ _ _ _ _ _ (af 4) (@ae _ _ _ _ _ _ (af 5) (@ae _ _ _ _ _ _ (af 5) (@ae _ _ _ _ _ _ (af 7) ag z_) z_) z_) z_)))) aS) (@ai _ _ _ _ _ (@bN _ _ _ _ _ _ _ _ (JF (du hr.units) (af 8) ah (aU _)) (@au _ _ _ (@aP _ _ _ _ (@aR _ _ _ _ _ _ (@ae _ _ _ _ _ _ (af 4) (@ae _ _ _ _ _ _ (@aC _ _ _ (aN (fS T) T.x__law_odd_place hr 0 0 (aF 0 (@ae _ _ _ _ _ _ (af 3) ag z_)))) (@ae _ _ _ _ _ _ (af 6) (@ae _ _ _ _ _ _ (af 7) ag z_) z_) z_) z_)))) aS) (@ai _ _ _ _ _ (@bN _ _ _ _ _ _ _ _ (JF (du hr.units) (af 8) ah (aU _)) (@au _ _ _ (@aP _ _ _ _ (@aR _ _ _ _ _ _ (@ae _ _ _ _ _ _ (af 4) (@ae _ _ _ _ _ _ (af 5) (@ae _ _ _ _ _ _ (@aC _ _ _ (aN (fS T) T.x__law_odd_place hr 0 0 (aF 0 (@ae _ _ _ _ _ _ (af 3) ag z_)))) (@ae _ _ _ _ _ _ (af 7) ag z_) z_) z_) z_)))) aS) (@ai _ _ _ _ _ (@bN _ _ _ _ _ _ _ _ (JF (du hr.units) (af 8) ah (aU _)) (@au _ _ _ (@aP _ _ _ _ (@aR _ _ _ _ _ _ (@ae _ _ _ _ _ _ (af 4) (@ae _ _ _ _ _ _ (af 5) (@ae _ _ _ _ _ _ (af 6) (@ae _ _ _ _ _ _ (@aR _ _ _ _ _ _ (@ae _ _ _ _ _ _ (nM ah) (@ae _ _ _ _ _ _ (@aC _ _ _ (@aD _ _ _ _ _ _ _ _ aZ ah (aN (aq T) T.x__law_take hr 0 0 (aF 0 (@ae _ _ _ _ _ _ ah ag z_))))) ag z_) z_)) ag z_) z_) z_) z_)))) aS) (@ai _ _ _ _ _ (@bN _ _ _ _ _ _ _ _ (JF (du hr.units) (af 8) ah (aU _)) (@au _ _ _ (@aP _ _ _ _ (@aR _ _ _ _ _ _ (@ae _ _ _ _ _ _ (af 4) (@ae _ _ _ _ _ _ (af 5) (@ae _ _ _ _ _ _ (af 6) (@ae _ _ _ _ _ _ (@aC _ _ _ (aN (fQ T) T.x__law_odd_ratio hr 0 0 (aF 0 ag))) ag z_) z_) z_) z_)))) aS) (@ai _ _ _ _ _ (@aL _ _ _ 9 _ _ _ a6.nd rfl v4 (@aR _ _ _ _ _ _ (@ae _ _ _ _ _ _ (af 4) (@ae _ _ _ _ _ _ (af 5) (@ae _ _ _ _ _ _ (af 6) (@ae _ _ _ _ _ _ (af 7) ag z_) z_) z_) z_)) z_ (by first | exact .inl rfl | exact .inr rfl)) (@ai _ _ _ _ _ (@aL _ _ _ 10 _ _ _ a6.nd rfl v4 (@aC _ _ _ (@bh _ _ _ _ _ (@ae _ _ _ _ _ _ bX (@ae _ _ _ _ _ _ (@aC _ _ _ (bQ kG rfl T.z_list y_ (@ae _ _ _ _ _ _ (af 9) ag z_))) (@ae _ _ _ _ _ _ (@aC _ _ _ (@d8 _ _ _ _ _ _ _ _ _ (af 9) trivial ah)) (@ae _ _ _ _ _ _ (@aC _ _ _ (@aD _ _ _ _ _ _ _ _ BJ (af 9) (@aR _ _ _ _ _ _ (@ae _ _ _ _ _ _ ah ag z_)))) (@ae _ _ _ _ _ _ (@aR _ _ _ _ _ _ ag) (@ae _ _ _ _ _ _ (af 4) (@ae _ _ _ _ _ _ jN (@ae _ _ _ _ _ _ ah (@ae _ _ _ _ _ _ gZ (@ae _ _ _ _ _ _ (@aC _ _ _ (@bh _ _ _ _ _ (@ae _ _ _ _ _ _ (af 9) ag z_))) (@ae _ _ _ _ _ _ (@aR _ _ _ _ _ _ (@ae _ _ _ _ _ _ (af 9) ag z_)) (@ae _ _ _ _ _ _ (Cf 4 9) ag z_) z_) z_) z_) z_) z_) z_) z_) z_) z_) z_) z_))) z_ (by first | exact .inl rfl | exact .inr rfl)) (@au _ _ _ (@aP _ _ _ _ (@a7 _ _ _ _ _ _ (af 10) (aN (aq T) T.x__law_take hr 0 0 (aF 0 (@ae _ _ _ _ _ _ ah ag z_))) (λ_ _=>rfl))))))))))))))))))))
  lJ
theorem mZ:aO nD ["_law_state","_law_row"] (aB eY):=⟨rfl,rfl,rfl,y_,rfl,y_,y_⟩
theorem m4(T:Tx K mg ad fd):FnOk P w K mg base CX0 2 (ad 24) (fd 24) ["_law_state","_law_row"] (spF K 2 eH) :=
 de (k:=1) T.x__law_no_list.f mZ fk (λcdv A outer s H E hr=>(au (aP (a7 (bh (ae (aC (bQ yS rfl T.z_tuple y_ (ae (af 1) ag))) (ae bX (ae gZ (ae ah (ae bz (ae jN (ae (Ci 1) ag)))))))) (aN (aq T) T.x__law_take hr 0 0 (aF 0 (ae ah ag))) (λ_ _=>rfl)))))
  lK
theorem bp:aO jn ["_law_state","_law_ring_here","_law_part"] (aB ej):=⟨rfl,rfl,rfl,y_,rfl,y_,y_⟩
theorem lr(T:Tx K mg ad fd):FnOk P w K mg base CX0 4 (ad 25) (fd 25) ["_law_state","_law_ring_here","_law_part"] (spF K 3 eS) :=
 de (k:=3) T.x__law_bent.f bp jz (λcdv A outer s H E hr=>by exact(@ai _ _ _ _ _ (@aL _ _ _ 3 _ _ _ bp.nd rfl v4 (bQ kG rfl T.z_list y_ (@ae _ _ _ _ _ _ (@a7 _ _ _ _ _ _ (af 1) (af 2) (λ_ _=>rfl)) ag z_)) z_ (by first | exact .inl rfl | exact .inr rfl)) (@ai _ _ _ _ _ (@aL _ _ _ 4 _ _ _ bp.nd rfl v4 (@aC _ _ _ (aN (aq T) T.x__law_take hr 0 0 (aF 0 (@ae _ _ _ _ _ _ ah ag z_)))) z_ (by first | exact .inl rfl | exact .inr rfl)) (@ai _ _ _ _ _ (@bN _ _ _ _ _ _ _ _ (JF (du hr.units) (af 4) ah (aU _)) (@au _ _ _ (@aP _ _ _ _ (@aR _ _ _ _ _ _ (@ae _ _ _ _ _ _ (@aC _ _ _ (aN (m4 T) T.x__law_no_list hr 0 0 (aF 0 (@ae _ _ _ _ _ _ (af 3) ag z_)))) (@ae _ _ _ _ _ _ bX ag z_) z_)))) aS) (@ai _ _ _ _ _ (@bN _ _ _ _ _ _ _ _ (JF (du hr.units) (af 4) ah (aU _)) (@ai _ _ _ _ _ (@aL _ _ _ 5 _ _ _ bp.nd rfl v4 (@a7 _ _ _ _ _ _ (@bh _ _ _ _ _ (@ae _ _ _ _ _ _ ah (@ae _ _ _ _ _ _ ah ag z_) z_)) (af 2) (λ_ _=>rfl)) z_ (by first | exact .inl rfl | exact .inr rfl)) (@ai _ _ _ _ _ (@aL _ _ _ 3 _ _ _ bp.nd rfl v4 (@DG _ _ _ _ _ _ _ _ (BE 3 (JF (uK hr.units) (af 3) (@bh _ _ _ _ _ ag) (aU _))) (@aD _ _ _ _ _ _ _ _ aZ (af 3) (mq (sc:=(aB ej)) (N:=jn) (Nt:=[ "_law_k" ]) (Nf:=[ "_law_row" ]) (fi:=[3]) rfl rfl rfl (iE rfl T.z_range (@aD _ _ _ _ _ _ _ _ aZ (af 5) ah)) rfl y_ y_ y_ x_ rfl y_ x_ (λ_ _ _ _=>(mj x_ (show(([ "_law_k" ]:List Str)++([ "_law_row" ]:List Str)).Nodup by decide +kernel) rfl (Or.inl rfl))) (λ_ _ _ _=>mn) (λ_ _ _ _=>(@gG _ _ _ _ _ (iT 1 ah (λ_ _=>rfl)) (@a7 _ _ _ _ _ _ (af 1) ah (λ_ _=>rfl)))))) (mq (sc:=(aB ej)) (N:=jn) (Nt:=[ "_law_k" ]) (Nf:=[]) (fi:=[]) rfl rfl rfl (iE rfl T.z_range (@aD _ _ _ _ _ _ _ _ aZ (af 5) ah)) rfl y_ y_ y_ x_ rfl y_ x_ (λ_ _ _ _=>(mj x_ (show(([ "_law_k" ]:List Str)++([]:List Str)).Nodup by decide +kernel) rfl (Or.inl rfl))) (λ_ _ _ _=>mn) (λ_ _ _ _=>bX))) z_ (by first | exact .inl rfl | exact .inr rfl)) (@ai _ _ _ _ _ (@bN _ _ _ _ _ _ _ _ (JD.pb (oK (JF (du hr.units) (af 2) ah (aU _)) (lS (JF (du hr.units) (aN (aq T) T.x__law_take hr 0 0 (aF 0 (@ae _ _ _ _ _ _ ah ag z_))) ah (aU _))))) (@au _ _ _ (@aP _ _ _ _ (@aR _ _ _ _ _ _ (@ae _ _ _ _ _ _ (@aC _ _ _ (@d8 _ _ _ _ _ _ _ _ _ (af 3) trivial (aN (aq T) T.x__law_take hr 0 0 (aF 0 (@ae _ _ _ _ _ _ ah ag z_))))) (@ae _ _ _ _ _ _ bX ag z_) z_)))) aS) (@au _ _ _ (@aP _ _ _ _ (@aR _ _ _ _ _ _ (@ae _ _ _ _ _ _ (@aC _ _ _ (@aD _ _ _ _ _ _ _ _ aZ (Au (@bh _ _ _ _ _ (@ae _ _ _ _ _ _ bX ag z_)) (aN (aq T) T.x__law_take hr 0 0 (aF 0 (@ae _ _ _ _ _ _ ah ag z_)))) (@d8 _ _ _ _ _ _ _ _ _ (af 3) trivial (@aD _ _ _ _ _ _ _ _ aZ (@aD _ _ _ _ _ _ _ _ aZ (af 5) ah) (aN (aq T) T.x__law_take hr 0 0 (aF 0 (@ae _ _ _ _ _ _ ah ag z_))))))) (@ae _ _ _ _ _ _ bX ag z_) z_))))))) aS) (@ai _ _ _ _ _ (@aL _ _ _ 6 _ _ _ bp.nd rfl v4 (@aC _ _ _ (aN (aq T) T.x__law_take hr 0 0 (aF 0 (@ae _ _ _ _ _ _ (@aC _ _ _ (@aD _ _ _ _ _ _ _ _ aZ (@gG _ _ _ _ _ (wd 3 rfl T.z_len) (bb fz rfl T.z_len PySem.boot_len (@ae _ _ _ _ _ _ (af 3) ag z_))) (af 2))) ag z_)))) z_ (by first | exact .inl rfl | exact .inr rfl)) (@ai _ _ _ _ _ (@aL _ _ _ 7 _ _ _ bp.nd rfl v4 bX z_ (by first | exact .inl rfl | exact .inr rfl)) (@ai _ _ _ _ _ (@bN _ _ _ _ _ _ _ _ (JF (du hr.units) (af 2) ah (aU _)) (@ai _ _ _ _ _ (@aL _ _ _ 7 _ _ _ bp.nd rfl v4 (@aC _ _ _ (aN (lP T) T.x__law_odd_room hr 0 0 (aF 0 ag))) z_ (by first | exact .inl rfl | exact .inr rfl)) (@au _ _ _ (kD (zx 3 (af 6))))) (@au _ _ _ (@aL _ _ _ 7 _ _ _ bp.nd rfl v4 (@aC _ _ _ (aN (mY T) T.x__law_odd_ask hr 0 0 (aF 0 (@ae _ _ _ _ _ _ (af 1) (@ae _ _ _ _ _ _ (af 6) ag z_) z_)))) z_ (by first | exact .inl rfl | exact .inr rfl)))) (@au _ _ _ (@aP _ _ _ _ (@aR _ _ _ _ _ _ (@ae _ _ _ _ _ _ (@aC _ _ _ (@aD _ _ _ _ _ _ _ _ aZ (@aD _ _ _ _ _ _ _ _ aZ (@aD _ _ _ _ _ _ _ _ aZ (@d8 _ _ _ _ _ _ _ _ _ (af 3) trivial (af 6)) (@bh _ _ _ _ _ (@ae _ _ _ _ _ _ (af 7) ag z_))) (@d8 _ _ _ _ _ _ _ _ _ (af 3) (af 6) trivial)) (Au (@bh _ _ _ _ _ (@ae _ _ _ _ _ _ bX ag z_)) (@aD _ _ _ _ _ _ _ _ gE (af 4) ah)))) (@ae _ _ _ _ _ _ (af 6) ag z_) z_))))))))))))
  pB
theorem cK:aO nE ["_law_thing","_law_part","_law_number"] (aB eZ):=⟨rfl,rfl,rfl,y_,rfl,y_,y_⟩
theorem iA(T:Tx K mg ad fd):FnOk P w K mg base CX0 8 (ad 26) (fd 26) ["_law_thing","_law_part","_law_number"] (spF K 3 cI) :=
 de (k:=7) T.x__law_refused.f cK fm (λcdv A outer s H E hr=>(ai (aL (i:=3) cK.nd rfl v4 bX)
  (ai (zr (i:=4) rfl rfl T.h_LoadError rfl cK.nd rfl rfl v4 (λ_ _ xt=>(zp (zo (Ef (iy T) T.x_look_at_ring hr (ae (af 0) ag))))) (λ_=>(au (aL (i:=3) cK.nd rfl v4 (af 4)))))
  (ai (bN (JD.pb (iR (da (cn (Ed T.h_NoRing rfl T.z_isinstance rfl (af 3)))) (eT (da (cn (gF nh rfl T.z_isinstance rfl T.z_ValueError y_ (af 3))))))) (au (aP gZ)) aS)
  (ai (bN (cn (BS (jS T.h_NoNumber rfl (jS T.h_NoSlide rfl (jS T.h_NoString rfl (jS T.h_NoText rfl (jS T.h_TooMany rfl BR))))) rfl T.z_isinstance (af 3))) (au (aP gZ)) aS)
  (ai (bN (JD.pb (iR (cn (gF tH rfl T.z_isinstance rfl T.z_bool y_ (tY (af 3)))) (eT (da (cn (gF wk rfl T.z_isinstance rfl T.z_str y_ (tY (af 3)))))))) (au (aP gZ)) aS)
  (au (aP (iS (gD (du hr.units) (tY (af 3)) (af 1) (aU _)) (l9 (gD (du hr.units) (tY (af 3)) (af 2) (aU _))))))))))))
  lL
theorem cL:aO nF ["_law_state","_law_ring_here"] (aB fb):=⟨rfl,rfl,rfl,y_,rfl,y_,y_⟩
theorem m5(T:Tx K mg ad fd):FnOk P w K mg base CX0 2 (ad 27) (fd 27) ["_law_state","_law_ring_here"] (spF K 2 eI) :=
 de (k:=1) T.x__law_no_ring.f cL ft (λcdv A outer s H E hr=>by exact(@ai _ _ _ _ _ (rL (pV rfl (cV (i:=2) cL.nd rfl v4 (cV (i:=3) cL.nd rfl v4 ma))) (af 1)) (@ai _ _ _ _ _ (@aL _ _ _ 4 _ _ _ cL.nd rfl v4 (@aC _ _ _ (@bh _ _ _ _ _ (@ae _ _ _ _ _ _ bX (@ae _ _ _ _ _ _ (@aC _ _ _ (@bh _ _ _ _ _ (@ae _ _ _ _ _ _ (af 2) (@ae _ _ _ _ _ _ (af 3) ag z_) z_))) (@ae _ _ _ _ _ _ (@aR _ _ _ _ _ _ (@ae _ _ _ _ _ _ (af 2) ag z_)) (@ae _ _ _ _ _ _ (@aR _ _ _ _ _ _ (@ae _ _ _ _ _ _ (af 2) (@ae _ _ _ _ _ _ (af 3) (@ae _ _ _ _ _ _ (@aC _ _ _ (@bh _ _ _ _ _ ag)) ag z_) z_) z_)) (@ae _ _ _ _ _ _ (@aR _ _ _ _ _ _ ag) (@ae _ _ _ _ _ _ bz (@ae _ _ _ _ _ _ gZ (@ae _ _ _ _ _ _ ah (@ae _ _ _ _ _ _ jN (@ae _ _ _ _ _ _ (@aR _ _ _ _ _ _ (@ae _ _ _ _ _ _ (af 2) (@ae _ _ _ _ _ _ (af 3) (@ae _ _ _ _ _ _ bX ag z_) z_) z_)) (@ae _ _ _ _ _ _ (af 2) ag z_) z_) z_) z_) z_) z_) z_) z_) z_) z_) z_))) z_ (by first | exact .inl rfl | exact .inr rfl)) (@au _ _ _ (@aP _ _ _ _ (@a7 _ _ _ _ _ _ (af 4) (aN (aq T) T.x__law_take hr 0 0 (aF 0 (@ae _ _ _ _ _ _ ah ag z_))) (λ_ _=>rfl)))))))
  lM
theorem qR:aO sL ["_law_ring_here"] (aB jo):=⟨rfl,rfl,rfl,y_,rfl,y_,y_⟩
theorem qS(T:Tx K mg ad fd):FnOk P w K mg base CX0 1 (ad 28) (fd 28) ["_law_ring_here"] (spF K 1 iu) :=
 de (k:=0) T.x__law_copy.f qR jA (λcdv A outer s H E hr=>(au (aP (aR (ae (aC (bQ kG rfl T.z_list y_ (ae (a7 (af 0) ah (λ_ _=>rfl)) ag))) (ae (aC (bQ kG rfl T.z_list y_ (ae (a7 (af 0) ah (λ_ _=>rfl)) ag))) ag))))))
  pC
theorem ja:aO GV ["_law_script"] (aB Ah):=⟨rfl,rfl,rfl,y_,rfl,y_,y_⟩
theorem Fw(T:Tx K mg ad fd):FnOk P w K mg base CX0 9 (ad 29) (fd 29) ["_law_script"] (spF K 1 fs_law) :=
 de (k:=8) T.x_law.f ja CV (λcdv A outer s H E hr=>by exact(@ai _ _ _ _ _ (@aL _ _ _ 1 _ _ _ ja.nd rfl v4 (@aC _ _ _ (fA (qQ T) T.x__law_ring hr (@ae _ _ _ _ _ _ (af 0) (@ae _ _ _ _ _ _ ah (@ae _ _ _ _ _ _ ah (@ae _ _ _ _ _ _ ah ag z_) z_) z_) z_))) z_ (by first | exact .inl rfl | exact .inr rfl)) (@ai _ _ _ _ _ (pY Oo rfl (yN rfl T.z_range ah (bb (DN rfl) rfl T.z_max y_ (@ae _ _ _ _ _ _ ah (@ae _ _ _ _ _ _ (@aC _ _ _ (bb (DO rfl) rfl T.z_min y_ (@ae _ _ _ _ _ _ (@aC _ _ _ (bb fz rfl T.z_len y_ (@ae _ _ _ _ _ _ (af 0) ag z_))) (@ae _ _ _ _ _ _ ah ag z_) z_))) ag z_) z_))) (rH (i:=2) ja.nd rfl v4) (@ai _ _ _ _ _ (@aL _ _ _ 3 _ _ _ ja.nd rfl v4 (fA (dX T) T.x__law_begun hr (@ae _ _ _ _ _ _ (af 0) (@ae _ _ _ _ _ _ (af 2) ag z_) z_)) z_ (by first | exact .inl rfl | exact .inr rfl)) (@ai _ _ _ _ _ (@bN _ _ _ _ _ _ _ _ (JF (du hr.units) (aN (aq T) T.x__law_take hr 0 3 (aF 3 (@ae _ _ _ _ _ _ ah ag z_))) ah (aU _)) (@au _ _ _ (@bN _ _ _ _ _ _ _ _ (da (cn (fA (iA T) T.x__law_refused hr (@ae _ _ _ _ _ _ (@aC _ _ _ (aN (m5 T) T.x__law_no_ring hr 0 3 (aF 3 (@ae _ _ _ _ _ _ (@aC _ _ _ (fA (qS T) T.x__law_copy hr (@ae _ _ _ _ _ _ (af 1) ag z_))) ag z_)))) (@ae _ _ _ _ _ _ bz (@ae _ _ _ _ _ _ bX ag z_) z_) z_)))) (@au _ _ _ (@aP _ _ _ _ gZ)) aS)) aS) (@ai _ _ _ _ _ (@aL _ _ _ 4 _ _ _ ja.nd rfl v4 (@aC _ _ _ (aN (aq T) T.x__law_take hr 0 3 (aF 3 (@ae _ _ _ _ _ _ ah ag z_)))) z_ (by first | exact .inl rfl | exact .inr rfl)) (@ai _ _ _ _ _ (rL (pV rfl (cV (i:=5) ja.nd rfl v4 (cV (i:=6) ja.nd rfl v4 ma))) (aN (lr T) T.x__law_bent hr 0 3 (aF 3 (@ae _ _ _ _ _ _ (af 1) (@ae _ _ _ _ _ _ (af 4) ag z_) z_)))) (@ai _ _ _ _ _ (@aL _ _ _ 7 _ _ _ ja.nd rfl v4 (@bh _ _ _ _ _ (@ae _ _ _ _ _ _ (@aC _ _ _ (bQ kG rfl T.z_list y_ (@ae _ _ _ _ _ _ (@a7 _ _ _ _ _ _ (af 1) ah (λ_ _=>rfl)) ag z_))) (@ae _ _ _ _ _ _ (@aC _ _ _ (bQ kG rfl T.z_list y_ (@ae _ _ _ _ _ _ (@a7 _ _ _ _ _ _ (af 1) ah (λ_ _=>rfl)) ag z_))) ag z_) z_)) z_ (by first | exact .inl rfl | exact .inr rfl)) (@ai _ _ _ _ _ (mi 7 (af 4) (af 5)) (@ai _ _ _ _ _ (@bN _ _ _ _ _ _ _ _ (JD.pb (oK (JF (du hr.units) (af 4) ah (aU _)) (lS (JF (du hr.units) (aN (aq T) T.x__law_take hr 0 3 (aF 3 (@ae _ _ _ _ _ _ ah ag z_))) ah (aU _))))) (@au _ _ _ (mi 7 ah (@a7 _ _ _ _ _ _ (aN (lr T) T.x__law_bent hr 0 3 (aF 3 (@ae _ _ _ _ _ _ (af 1) (@ae _ _ _ _ _ _ ah ag z_) z_))) ah (λ_ _=>rfl)))) aS) (@ai _ _ _ _ _ (@aL _ _ _ 8 _ _ _ ja.nd rfl v4 (@aR _ _ _ _ _ _ (@ae _ _ _ _ _ _ (@gG _ _ _ _ _ (iT 7 ah (λ_ _=>rfl)) (@a7 _ _ _ _ _ _ (af 7) ah (λ_ _=>rfl))) (@ae _ _ _ _ _ _ (@gG _ _ _ _ _ (iT 7 ah (λ_ _=>rfl)) (@a7 _ _ _ _ _ _ (af 7) ah (λ_ _=>rfl))) ag z_) z_)) z_ (by first | exact .inl rfl | exact .inr rfl)) (@ai _ _ _ _ _ (@aL _ _ _ 9 _ _ _ ja.nd rfl v4 (@aC _ _ _ (bQ (xn hr) rfl T.z_str y_ (@ae _ _ _ _ _ _ (af 8) ag z_))) z_ (by first | exact .inl rfl | exact .inr rfl)) (@au _ _ _ (@bN _ _ _ _ _ _ _ _ (JD.pb (iR (da (cn (fA (iA T) T.x__law_refused hr (@ae _ _ _ _ _ _ (af 8) (@ae _ _ _ _ _ _ (@a7 _ _ _ _ _ _ (@bh _ _ _ _ _ (@ae _ _ _ _ _ _ bz (@ae _ _ _ _ _ _ bz ag z_) z_)) (af 4) (λ_ _=>rfl)) (@ae _ _ _ _ _ _ (af 6) ag z_) z_) z_)))) (eT (JF D4 (bQ (xn hr) rfl T.z_str y_ (@ae _ _ _ _ _ _ (af 8) ag z_)) (af 9) (aU _))))) (@au _ _ _ (@aP _ _ _ _ gZ)) aS)))))))))))) (@au _ _ _ (@aP _ _ _ _ (gD Bu (xb (iy T) T.x_look_at_ring hr Ee (@ae _ _ _ _ _ _ (af 1) ag z_)) bX (aU _)))))))
  CW
end
noncomputable def Mq(i:Nat):Addr:=([141,148,155,162,169,174,188,209,202,195,181,216,223,242,230,237,249,256,263,284,291,298,305,312,277,317,324,331,270,338]:List Addr).getD i 0
noncomputable abbrev Mr:Value:=(.str "ringloads.divisors" 349)
noncomputable abbrev Ms:Value:=(.str "ringloads.names" 360)
noncomputable abbrev Mt:Value:=(.str "ringloads.rings" 399)
noncomputable abbrev Mu:Value:=(.str "law_ringloads_k06_rings_refused" 451)
noncomputable def Mv(i:Nat):FuncData:=[J9 "greatest_shared" cP Mr 140,J9 "is_whole" kQ Ms 147,J9 "is_number_below" cQ Ms 154,J9 "are_two_wholes" dB Ms 161,J9 "is_ratio" kT Ms 168,J9 "is_name" jW Ms 173,J9 "look_at_rooms" ee Mt 187,J9 "is_ask" pd Mt 208,J9 "look_at_each_ask" cA Mt 201,J9 "look_at_asks" cZ Mt 194,J9 "look_at_ring" eW Mt 180,J9 "_law_begun" ia Mu 215,J9 "_law_take" jj Mu 222,J9 "_law_names" dh Mu 241,J9 "_law_low" kU Mu 229,J9 "_law_amount" gm Mu 236,J9 "_law_rooms" ic Mu 248,J9 "_law_ends" jk Mu 255,J9 "_law_ring" jm Mu 262,J9 "_law_odd_ratio" dC Mu 283,J9 "_law_odd_room" ef Mu 290,J9 "_law_odd_name" eh Mu 297,J9 "_law_odd_place" dD Mu 304,J9 "_law_odd_ask" eX Mu 311,J9 "_law_no_list" eY Mu 276,J9 "_law_bent" ej Mu 316,J9 "_law_refused" eZ Mu 323,J9 "_law_no_ring" fb Mu 330,J9 "_law_copy" jo Mu 269,J9 "law" Ah Mu 337].getD i (J9 "law" Ah Mr 0)
theorem tx{Pm:Params}{h:Heap}{mg:Str->Option Value}(X:(Hd.Kf Pm).In h)(G:h.Ns mainGlobals mg):Tx (Hd.Kf Pm) mg Mq Mv where
 x_greatest_shared:=FX.mk' X G (a:=141) (c:=140) (md:=Mr) z_ z_ z_ z_ λ_ _ _ _ _ _ u l=>match u,l with | [_,_],_=>rfl
 x_is_whole:=FX.mk' X G (a:=148) (c:=147) (md:=Ms) z_ z_ z_ z_ λ_ _ _ _ _ _ u l=>match u,l with | [_],_=>rfl
 x_is_number_below:=FX.mk' X G (a:=155) (c:=154) (md:=Ms) z_ z_ z_ z_ λ_ _ _ _ _ _ u l=>match u,l with | [_,_],_=>rfl
 x_are_two_wholes:=FX.mk' X G (a:=162) (c:=161) (md:=Ms) z_ z_ z_ z_ λ_ _ _ _ _ _ u l=>match u,l with | [_],_=>rfl
 x_is_ratio:=FX.mk' X G (a:=169) (c:=168) (md:=Ms) z_ z_ z_ z_ λ_ _ _ _ _ _ u l=>match u,l with | [_],_=>rfl
 x_is_name:=FX.mk' X G (a:=174) (c:=173) (md:=Ms) z_ z_ z_ z_ λ_ _ _ _ _ _ u l=>match u,l with | [_],_=>rfl
 x_look_at_rooms:=FX.mk' X G (a:=188) (c:=187) (md:=Mt) z_ z_ z_ z_ λ_ _ _ _ _ _ u l=>match u,l with | [_],_=>rfl
 x_is_ask:=FX.mk' X G (a:=209) (c:=208) (md:=Mt) z_ z_ z_ z_ λ_ _ _ _ _ _ u l=>match u,l with | [_,_],_=>rfl
 x_look_at_each_ask:=FX.mk' X G (a:=202) (c:=201) (md:=Mt) z_ z_ z_ z_ λ_ _ _ _ _ _ u l=>match u,l with | [_,_],_=>rfl
 x_look_at_asks:=FX.mk' X G (a:=195) (c:=194) (md:=Mt) z_ z_ z_ z_ λ_ _ _ _ _ _ u l=>match u,l with | [_,_],_=>rfl
 l_look_at_asks:=En.mk' (c0:=194) z_ rfl z_
 x_look_at_ring:=FX.mk' X G (a:=181) (c:=180) (md:=Mt) z_ z_ z_ z_ λ_ _ _ _ _ _ u l=>match u,l with | [_],_=>rfl
 x__law_begun:=FX.mk' X G (a:=216) (c:=215) (md:=Mu) z_ z_ z_ z_ λ_ _ _ _ _ _ u l=>match u,l with | [_,_],_=>rfl
 x__law_take:=FX.mk' X G (a:=223) (c:=222) (md:=Mu) z_ z_ z_ z_ λ_ _ _ _ _ _ u l=>match u,l with | [_,_],_=>rfl
 x__law_names:=FX.mk' X G (a:=242) (c:=241) (md:=Mu) z_ z_ z_ z_ λ_ _ _ _ _ _ u l=>match u,l with | [_,_],_=>rfl
 x__law_low:=FX.mk' X G (a:=230) (c:=229) (md:=Mu) z_ z_ z_ z_ λ_ _ _ _ _ _ u l=>match u,l with | [_,_],_=>rfl
 x__law_amount:=FX.mk' X G (a:=237) (c:=236) (md:=Mu) z_ z_ z_ z_ λ_ _ _ _ _ _ u l=>match u,l with | [_,_,_],_=>rfl
 x__law_rooms:=FX.mk' X G (a:=249) (c:=248) (md:=Mu) z_ z_ z_ z_ λ_ _ _ _ _ _ u l=>match u,l with | [_,_,_],_=>rfl
 x__law_ends:=FX.mk' X G (a:=256) (c:=255) (md:=Mu) z_ z_ z_ z_ λ_ _ _ _ _ _ u l=>match u,l with | [_,_,_,_],_=>rfl
 x__law_ring:=FX.mk' X G (a:=263) (c:=262) (md:=Mu) z_ z_ z_ z_ λ_ _ _ _ _ _ u l=>match u,l with | [_,_,_,_],_=>rfl
 x__law_odd_ratio:=FX.mk' X G (a:=284) (c:=283) (md:=Mu) z_ z_ z_ z_ λ_ _ _ _ _ _ u l=>match u,l with | [_],_=>rfl
 x__law_odd_room:=FX.mk' X G (a:=291) (c:=290) (md:=Mu) z_ z_ z_ z_ λ_ _ _ _ _ _ u l=>match u,l with | [_],_=>rfl
 x__law_odd_name:=FX.mk' X G (a:=298) (c:=297) (md:=Mu) z_ z_ z_ z_ λ_ _ _ _ _ _ u l=>match u,l with | [_],_=>rfl
 x__law_odd_place:=FX.mk' X G (a:=305) (c:=304) (md:=Mu) z_ z_ z_ z_ λ_ _ _ _ _ _ u l=>match u,l with | [_,_],_=>rfl
 x__law_odd_ask:=FX.mk' X G (a:=312) (c:=311) (md:=Mu) z_ z_ z_ z_ λ_ _ _ _ _ _ u l=>match u,l with | [_,_,_],_=>rfl
 x__law_no_list:=FX.mk' X G (a:=277) (c:=276) (md:=Mu) z_ z_ z_ z_ λ_ _ _ _ _ _ u l=>match u,l with | [_,_],_=>rfl
 x__law_bent:=FX.mk' X G (a:=317) (c:=316) (md:=Mu) z_ z_ z_ z_ λ_ _ _ _ _ _ u l=>match u,l with | [_,_,_],_=>rfl
 x__law_refused:=FX.mk' X G (a:=324) (c:=323) (md:=Mu) z_ z_ z_ z_ λ_ _ _ _ _ _ u l=>match u,l with | [_,_,_],_=>rfl
 x__law_no_ring:=FX.mk' X G (a:=331) (c:=330) (md:=Mu) z_ z_ z_ z_ λ_ _ _ _ _ _ u l=>match u,l with | [_,_],_=>rfl
 x__law_copy:=FX.mk' X G (a:=270) (c:=269) (md:=Mu) z_ z_ z_ z_ λ_ _ _ _ _ _ u l=>match u,l with | [_],_=>rfl
 x_law:=FX.mk' X G (a:=338) (c:=337) (md:=Mu) z_ z_ z_ z_ λ_ _ _ _ _ _ u l=>match u,l with | [_],_=>rfl
 li:=wY.mk' X G z_ z_ z_ z_ z_ z_ z_ λ_ _ _ _ _ _ u l=>match u,l with | [_,_],_=>rfl
 i_NoRing:=nL (oc:=.type "function") (od:=none) (osl:=#[]) z_ z_ z_
 c_NoRing:=XT.mk' X G z_ z_ z_ ((nL (x:="__init__") (qual:="NoRing.__init__") (st:=gB) (f:=60) (oc:=.type "function") (od:=none) (osl:=#[]) z_ z_ z_).binds λ_ _ _ _ _ _ u l=>match u,l with | [_,_,_],_=>rfl) z_ z_
 h_LoadError:=XH.mk' X G z_ z_ z_ z_
 h_NoNumber:=XH.mk' X G z_ z_ z_ z_
 h_NoRing:=XH.mk' X G z_ z_ z_ z_
 h_NoSlide:=XH.mk' X G z_ z_ z_ z_
 h_NoString:=XH.mk' X G z_ z_ z_ z_
 h_NoText:=XH.mk' X G z_ z_ z_ z_
 h_TooMany:=XH.mk' X G z_ z_ z_ z_
 z_ValueError:=M1 X G z_
 z_abs:=M1 X G z_
 z_all:=M1 X G z_
 z_bool:=M1 X G z_
 z_enumerate:=M1 X G z_
 z_int:=M1 X G z_
 z_isinstance:=M1 X G z_
 z_len:=M1 X G z_
 z_list:=M1 X G z_
 z_max:=M1 X G z_
 z_min:=M1 X G z_
 z_range:=M1 X G z_
 z_str:=M1 X G z_
 z_tuple:=M1 X G z_
 g_FEWEST_TIES:=lT (PySem.W.mg_of X G (v:=(.int 2 401)) z_)
 g_LONGEST_NAME:=lT (PySem.W.mg_of X G (v:=(.int 8 362)) z_)
 g_MOST_ASKS:=lT (PySem.W.mg_of X G (v:=(.int 20 405)) z_)
 g_MOST_TIES:=lT (PySem.W.mg_of X G (v:=(.int 12 403)) z_)
theorem walkF(w:World)(mg:Str→Option Value)(fa:Addr)(h:Heap)(X:(Hd.Kf w.params).In h)(G:h.Ns mainGlobals mg) (hmg:mg "law"=some (.ref fa)) :
  ∃ fd:FuncData,(∀(s:Shared)(u:Value),BindsTo s fd ⟨[u],[]⟩ [("_law_script",u)])∧∀ base:Heap,(Hd.Kf w.params).In base→base.Ns mainGlobals mg→FnOk PySem.Challenge.pw_ringloads_k06_rings_refused w (Hd.Kf w.params) mg base CX0 9 fa fd ["_law_script"] (spF (Hd.Kf w.params) 1 fs_law):=by
 have T:=tx X G
 have e:=hmg.symm.trans T.x_law.m
 cases e
 exact⟨_,fun s v=>.of_eq rfl,fun base _ _=>Fw T⟩
theorem tabR(w:World):∀x∈L2.lamNames,PySem.W.tabIn (Hd.Kf w.params) x=none∨((PyProof.Rows.recsOf Hd.q).find? λe=>e.name == x).isSome=true:=by
 intro x hx;simp only[L2.lamNames,MC,MS,Oi]at hx;rcases hx with rfl|rfl|rfl
 . exact .inr z_
 . exact .inl z_
 . exact .inl z_
theorem walk{l:PySem.W.OpenLaw}{q:Program}{loose:List Str}{XP:(Str->Option Value)->Heap->Prop}{YP:World->Heap->Prop}{d:DefRec}{K:Params->PySem.W.Frag}(hn:l.most=some 63)(hq:PyProof.Rows.importsNone q=true)(hdf:d.params.defaults=[])
  (hY:∀(w:World)(h:Heap),YP w h->(K w.params).In h) (hto:∀w:World,L2.tabsOk (K w.params)=true) (hrc:∀(w:World),∀x∈L2.lamNames,PySem.W.tabIn (K w.params) x=none∨((PyProof.Rows.recsOf q).find? λe=>e.name == x).isSome=true)
  (F:∀(w:World)(mg:Str->Option Value)(fa:Addr)(h:Heap),(K w.params).In h->h.Ns mainGlobals mg->mg d.name=some (.ref fa) ->
   ∃ fd:FuncData,(∀(s:Shared)(u:Value),BindsTo s fd ⟨[u],[]⟩ [("_law_script",u)])/\∀ base:Heap,(K w.params).In base->base.Ns mainGlobals mg->FnOk l.prog w (K w.params) mg base CX0 9 fa fd ["_law_script"] (spF (K w.params) 1 fs_law)) :
  PySem.W.WalkO q loose XP YP l.row.toRowW d [] (λf vs=>PySem.call f vs) :=
 L2.walk_of (n:=63) (k:=9) (x:="_law_script") (CX:=λ_=>CX0) (sp:=λw=>spF (K w.params) 1 fs_law) hn hq x_ hdf ⟨rfl,x_,x_,rfl⟩ hY hto hrc F (λ_ H a ns hl hO hS=>wm hl hO hS (xZ hl)) λ_ _ _ _ _ z=>z
end My
open PySem PySem.W PyProof.Rows
noncomputable abbrev PySem.W.Fast.tw16594813476434636161:PySem.Program:=PySem.Challenge.pw_ringloads_k06_rings_refused
theorem PySem.W.Fast.te16594813476434636161:PySem.Challenge.pw_ringloads_k06_rings_refused=PySem.W.Fast.tw16594813476434636161:=rfl
set_option maxRecDepth 100000 in
theorem PySem.Challenge.cw_ringloads_k06_rings_refused_holds : PySem.Challenge.rw_ringloads_k06_rings_refused.Holds := by
 w_on;o_law
 refine PySem.W.holds_open (q:=Hd.q) (loose:=Hd.loose) (Xt:=Hd.Xt) (XP:=XL Hd.q []) (Yf:=Hook.obs Hd.Hk) (Ya:=Hook.val Hd.Hk) (YP:=Hook.says Hd.Hk) (N:=_) Hd.left (Hook.of Hd.Hk) (Hook.keeps Hd.Hk) (fun s e=>xl_of s (NM.mp e).1) XL.keeps (by rfl) (by rfl) (by rfl) (fun s e=>recFacts_of (NM.mp e).2) (by rfl) (by assumption) y_ ⟨rfl,rfl,rfl,rfl,rfl,y_⟩ ?hw ?hc
 case hw=>w_witness2
 case hc=>exact My.walk (l:=PySem.Challenge.rw_ringloads_k06_rings_refused) (K:=Hd.Kf) rfl y_ rfl (fun w h Y=>PySem.W.kIn_of Y) (fun w=>by kernel_rfl) My.tabR My.walkF