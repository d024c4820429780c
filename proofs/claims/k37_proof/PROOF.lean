import PyProof.Rows.All
import Wide.All
import OpenK.AllK
import Wide.FinOn
import Lean
import PyProof.EqAt
import PyProof.EqKinds
import PyProof.TupleCall
import PyProof.ExcArgs
import KE.KSortKey
import KE.KIsAll
import PyProof.ExcInit
import PyProof.StationsW
import PyProof.NsDelKeeps
import PyProof.RulesAs
import PyProof.PassesOwn
import PyProof.ExcBaseAll.ValueError
import PyProof.InstStoreFacts
import PyProof.Rows.EqDataRows
import PyProof.ReprRoads
import PyProof.Rows.Range3
import PyProof.ConsumeWalk
import PyProof.FString5
import PyProof.ReprLen
import PyProof.Rows.TupAdd
import PyProof.Rows.RuleIs
import PyProof.ListNew
import KE.KRevIter
import PyProof.Rows.SeqMore2
import PyProof.ListRange
import KE.KEqDict
import PyProof.NeKinds
import PyProof.CallStr
import PyProof.ListMulAny
import PyProof.Rows.SetFrom
import PyProof.SetRoads
import KE.KSortTup
import PySem.Challenge.RW_ringloads_k37_roundings_told
set_option Elab.async false
set_option linter.all false
set_option maxRecDepth 100000
set_option maxHeartbeats 0
theorem z_ {α:Sort _} {a b:α} (h:a=b:=by kernel_rfl):a=b:=h
theorem y_ {p:Prop} [Decidable p] (h:decide p=true:=by decide +kernel):p:=of_decide_eq_true h
theorem xp {p:Prop} [Decidable p] (h:decide p=true:=by decide):p:=of_decide_eq_true h
theorem xL{p:Prop}(h:p:=by omega):p:=h
theorem x_{p:Prop}(h:p:=by simp):p:=h
section
open PySem PySem.Spec PyProof.Rows PySem.W
theorem fI:type_of% @List.getElem?_eq_getElem:=@List.getElem?_eq_getElem
theorem gV:type_of% @List.mem_cons_of_mem:=@List.mem_cons_of_mem
theorem k5:type_of% @List.getElem?_eq_some_iff:=@List.getElem?_eq_some_iff
theorem p4:type_of% @List.mem_cons_self:=@List.mem_cons_self
theorem so:type_of% @Nat.lt_of_lt_of_le:=@Nat.lt_of_lt_of_le
theorem tu:type_of% @Heap.get?_push_of_some:=@Heap.get?_push_of_some
theorem UK:type_of% @List.getD_eq_getElem?_getD:=@List.getD_eq_getElem?_getD
theorem UL:type_of% @wpAny_bind:=@wpAny_bind
theorem UM:type_of% @decide_eq_false:=@decide_eq_false
theorem UN:type_of% @List.length_map:=@List.length_map
theorem UO:type_of% @List.getElem_mem:=@List.getElem_mem
theorem UP:type_of% @decide_eq_true_eq:=@decide_eq_true_eq
theorem UQ:type_of% @Bool.and_eq_true:=@Bool.and_eq_true
theorem UR:type_of% @Heap.lt_size:=@Heap.lt_size
theorem US:type_of% @Nat.le_refl:=@Nat.le_refl
theorem UT:type_of% @Nat.le_trans:=@Nat.le_trans
theorem UU:type_of% @List.getElem?_map:=@List.getElem?_map
theorem UV:type_of% @List.mem_cons:=@List.mem_cons
theorem UW:type_of% @Nat.pow_le_pow_right:=@Nat.pow_le_pow_right
theorem UX:type_of% @decide_eq_true:=@decide_eq_true
theorem UY:type_of% @PassesOwn.never:=@PassesOwn.never
theorem UZ:type_of% @List.size_toArray:=@List.size_toArray
theorem U0:type_of% @wpAny_pure:=@wpAny_pure
theorem U1:type_of% @Nat.lt_of_le_of_lt:=@Nat.lt_of_le_of_lt
theorem U2:type_of% @List.mem_append_right:=@List.mem_append_right
theorem U3:type_of% @Heap.get?_push_size:=@Heap.get?_push_size
theorem U4:type_of% @Bool.false_ne_true:=@Bool.false_ne_true
theorem U5:type_of% @Int.natAbs_natCast:=@Int.natAbs_natCast
theorem U6:type_of% @Option.some.inj:=@Option.some.inj
theorem U7:type_of% @Nat.ne_of_lt:=@Nat.ne_of_lt
theorem U8:type_of% @List.mem_append_left:=@List.mem_append_left
theorem U9:type_of% @List.getElem?_append_left:=@List.getElem?_append_left
theorem Va:type_of% @Int.fmod_eq_emod_of_nonneg:=@Int.fmod_eq_emod_of_nonneg
theorem Vb:type_of% @List.getElem?_append_right:=@List.getElem?_append_right
theorem Vc:type_of% @List.length_range:=@List.length_range
theorem Vd:type_of% @List.mem_range:=@List.mem_range
theorem Ve:type_of% @List.map_cons:=@List.map_cons
theorem Vf:type_of% @List.nodup_cons:=@List.nodup_cons
theorem Vg:type_of% @List.mem_append:=@List.mem_append
theorem Vh:type_of% @PySem.W.mg_none_of:=@PySem.W.mg_none_of
theorem Vi:type_of% @List.drop_eq_getElem_cons:=@List.drop_eq_getElem_cons
theorem Vj:type_of% @Nat.add_sub_cancel_left:=@Nat.add_sub_cancel_left
theorem Vk:type_of% @List.length_append:=@List.length_append
theorem Vl:type_of% @Option.some.injEq:=@Option.some.injEq
theorem Vm:type_of% @Rat.num_divInt_den:=@Rat.num_divInt_den
theorem Vn:type_of% @List.map_map:=@List.map_map
theorem Vo:type_of% @List.getElem?_set_self:=@List.getElem?_set_self
theorem Vp:type_of% @List.getElem?_set_ne:=@List.getElem?_set_ne
theorem Vq:type_of% @List.nodup_append:=@List.nodup_append
theorem Vr:type_of% @List.lookup_cons:=@List.lookup_cons
theorem Vs:type_of% @List.append_assoc:=@List.append_assoc
theorem Vt:type_of% @wpAny_truthy_bool:=@wpAny_truthy_bool
theorem Vu:type_of% @List.getElem_of_mem:=@List.getElem_of_mem
theorem Vv:type_of% @Nat.zero_le:=@Nat.zero_le
theorem Vw:type_of% @Rat.sub_eq_add_neg:=@Rat.sub_eq_add_neg
theorem Vx:type_of% @List.mem_singleton:=@List.mem_singleton
theorem Vy:type_of% @List.perm_append_comm:=@List.perm_append_comm
theorem Vz:type_of% @List.filterMap_cons:=@List.filterMap_cons
theorem VA:type_of% @List.mem_map:=@List.mem_map
theorem VB:type_of% @Ne.symm:=@Ne.symm
theorem VC:type_of% @List.append_nil:=@List.append_nil
theorem VD:type_of% @List.zip_append:=@List.zip_append
theorem VE:type_of% @List.all_eq_true:=@List.all_eq_true
theorem VF:type_of% @Bool.and_true:=@Bool.and_true
theorem VG:type_of% @List.mem_filter:=@List.mem_filter
theorem VH:type_of% @exists_eq_left':=@exists_eq_left'
theorem VI:type_of% @List.getElem?_range:=@List.getElem?_range
theorem VJ:type_of% @List.length_filter_le:=@List.length_filter_le
theorem VL:type_of% @Int.toNat_natCast:=@Int.toNat_natCast
theorem VM:type_of% @decide_eq_true_iff:=@decide_eq_true_iff
theorem VN:type_of% @PySem.W.kia_one:=@PySem.W.kia_one
theorem VO:type_of% @List.length_zip:=@List.length_zip
theorem VP:type_of% @List.length_set:=@List.length_set
theorem VQ:type_of% @List.map_append:=@List.map_append
theorem VR:type_of% @Bool.true_and:=@Bool.true_and
theorem VS:type_of% @List.nil_append:=@List.nil_append
theorem VT:type_of% @Bool.eq_iff_iff:=@Bool.eq_iff_iff
theorem VU:type_of% @List.take_of_length_le:=@List.take_of_length_le
theorem VV:type_of% @List.length_drop:=@List.length_drop
theorem VW:type_of% @List.filter_cons:=@List.filter_cons
theorem VX:type_of% @List.sublist_append_right:=@List.sublist_append_right
theorem VY:type_of% @PySem.mem_of_lookup:=@PySem.mem_of_lookup
theorem VZ:type_of% @List.getElem?_eq_none:=@List.getElem?_eq_none
theorem V0:type_of% @wpAny_holding:=@wpAny_holding
theorem V1:type_of% @Option.isSome_iff_exists:=@Option.isSome_iff_exists
theorem V2:type_of% @Bool.false_eq_true:=@Bool.false_eq_true
theorem V3:type_of% @Int.eq_ofNat_of_zero_le:=@Int.eq_ofNat_of_zero_le
theorem V4:type_of% @PyProof.Rows.callWith_type1:=@PyProof.Rows.callWith_type1
theorem V5:type_of% @Nat.lt_irrefl:=@Nat.lt_irrefl
theorem V6:type_of% @Int.natAbs_mul:=@Int.natAbs_mul
theorem V7:type_of% @wpAny_mono:=@wpAny_mono
theorem V8:type_of% @Rat.divInt_mul_divInt:=@Rat.divInt_mul_divInt
theorem V9:type_of% @List.length_cons:=@List.length_cons
theorem Wa:type_of% @List.length_take:=@List.length_take
theorem Wb:type_of% @List.pairwise_cons:=@List.pairwise_cons
theorem Wc:type_of% @List.any_cons:=@List.any_cons
theorem Wd:type_of% @List.set_set:=@List.set_set
theorem We:type_of% @List.mem_of_getElem?:=@List.mem_of_getElem?
theorem Wf:type_of% @List.set_append_left:=@List.set_append_left
theorem Wg:type_of% @Bool.false_and:=@Bool.false_and
theorem Wh:type_of% @sizeLine_eq:=@sizeLine_eq
theorem Wi:type_of% @List.length_eq_zero_iff:=@List.length_eq_zero_iff
theorem Wj:type_of% @of_decide_eq_true:=@of_decide_eq_true
theorem Wk:type_of% @Fast.te14364793385576792824:=@Fast.te14364793385576792824
theorem Wl:type_of% @Nat.le_of_dvd:=@Nat.le_of_dvd
theorem Wm:type_of% @List.all_cons:=@List.all_cons
theorem Wn:type_of% @List.not_mem_nil:=@List.not_mem_nil
theorem Wo:type_of% @Nat.le_add_right:=@Nat.le_add_right
theorem Wp:type_of% @List.drop_length:=@List.drop_length
theorem Wq:type_of% @decide_eq_decide:=@decide_eq_decide
theorem Wr:type_of% @List.zip_cons_cons:=@List.zip_cons_cons
theorem Ws:type_of% @wpAny_Call_Name_kw:=@wpAny_Call_Name_kw
theorem Wt:type_of% @List.mem_filterMap:=@List.mem_filterMap
theorem Wu:type_of% @Int.emod_lt_of_pos:=@Int.emod_lt_of_pos
theorem Wv:type_of% @if_false:=@if_false
theorem Ww:type_of% @if_true:=@if_true
theorem Wx:type_of% @List.set_append_right:=@List.set_append_right
theorem Wy:type_of% @wpAny_passesOwn:=@wpAny_passesOwn
theorem Wz:type_of% @Int.emod_nonneg:=@Int.emod_nonneg
theorem WA:type_of% @wpAny_newObj_type:=@wpAny_newObj_type
theorem WB:type_of% @List.Sublist.refl:=@List.Sublist.refl
theorem WC:type_of% @Bool.and_eq_true_iff:=@Bool.and_eq_true_iff
theorem WD:type_of% @List.map_congr_left:=@List.map_congr_left
theorem WE:type_of% @List.getElem_zip:=@List.getElem_zip
theorem WG:type_of% @congrArg:=@congrArg
theorem WH:type_of% @Nat.mod_lt:=@Nat.mod_lt
theorem WI:type_of% @Rat.le_trans:=@Rat.le_trans
theorem WJ:type_of% @Nat.le_of_lt:=@Nat.le_of_lt
theorem WK:type_of% @Bool.or_eq_true:=@Bool.or_eq_true
theorem WL:type_of% @Rat.le_refl:=@Rat.le_refl
end
namespace L2
open PySem PySem.Spec PyProof.Rows
noncomputable abbrev PX:=Sum Int Str
noncomputable def BQ:PX->Value->Bool
 |.inl k,v=>Value.isInt k v
 |.inr x,v=>Value.isStrOf x v
noncomputable def O8(w:World):PX->Int
 |.inl k=>hashInt k
 |.inr x=>hashStr w x
theorem cg:∀{k:PX}{v:Value},BQ k v=true->(∃i t,k=Sum.inl i/\v=Value.int i t)∨(∃x t,k=Sum.inr x/\v=Value.str x t)
 | .inl i,v,h=>by obtain⟨t,e⟩:=Value.isInt_shape (k:=i) (v:=v) h;exact .inl ⟨i,t,rfl,e⟩
 | .inr x,v,h=>by obtain⟨t,e⟩:=Value.isStrOf_shape (x:=x) (v:=v) h;exact .inr ⟨x,t,rfl,e⟩
theorem CO(i:Int)(t:Tok):BQ (.inl i) (.int i t)=true:=by simp[BQ,Value.isInt]
theorem CP(x:Str)(t:Tok):BQ (.inr x) (.str x t)=true:=by simp[BQ,Value.isStrOf]
theorem La(a b:Int):decide ((Sum.inl a:PX)=Sum.inl b)=(a == b):=by
 by_cases e:a=b
 . subst e;simp
 . have h:¬(Sum.inl a:PX)=Sum.inl b:=λq=>e (Sum.inl.inj q);rw[UM h];exact(beq_eq_false_iff_ne.mpr e).symm
theorem Lb(a b:Str):decide ((Sum.inr a:PX)=Sum.inr b)=decide (a=b):=by
 by_cases e:a=b
 . subst e;simp
 . have h:¬(Sum.inr a:PX)=Sum.inr b:=λq=>e (Sum.inr.inj q);rw[UM h,UM e]
theorem Lc(a:Int)(b:Str):decide ((Sum.inl a:PX)=Sum.inr b)=false:=UM (λq=>nomatch q)
theorem Ld(a:Str)(b:Int):decide ((Sum.inr a:PX)=Sum.inl b)=false:=UM (λq=>nomatch q)
noncomputable def pP(prog:Program)(w:World):PySem.KeyKind prog w PX where
 is:=BQ
 hash:=O8 w
 inj:=λv a b ha hb=>by
  rcases cg ha with⟨i,t,rfl,rfl⟩|⟨x,t,rfl,rfl⟩
  .
   rcases cg hb with⟨j,u,rfl,e⟩|⟨y,u,rfl,e⟩
   . injection e with e1 _;rw[e1]
   . exact nomatch e
  .
   rcases cg hb with⟨j,u,rfl,e⟩|⟨y,u,rfl,e⟩
   . exact nomatch e
   . injection e with e1 _;rw[e1]
 byValue:=λk v h=>by rcases cg h with⟨i,t,rfl,rfl⟩|⟨x,t,rfl,rfl⟩<;>rfl
 pyHash:=λhv h=>by
  rcases cg hv with⟨i,t,rfl,rfl⟩|⟨x,t,rfl,rfl⟩
  . exact wpAny_pyHash_int h
  . exact wpAny_pyHash_str h
 eqBool:=λhu hv h=>by
  rcases cg hu with⟨i,t,rfl,rfl⟩|⟨x,t,rfl,rfl⟩
  .
   rcases cg hv with⟨j,u,rfl,rfl⟩|⟨y,u,rfl,rfl⟩
   . rw[La]at h;exact wpAny_eqBool_int h
   . rw[Lc]at h;exact SeqAt.EqAt.int_str i t y u _ _ _ _ h
  .
   rcases cg hv with⟨j,u,rfl,rfl⟩|⟨y,u,rfl,rfl⟩
   . rw[Ld]at h;exact SeqAt.EqAt.str_int x t j u _ _ _ _ h
   . rw[Lb]at h;exact wpAny_eqBool_str h
 «strs»:=λk x t v h=>by
  rcases cg h with⟨i,u,rfl,e⟩|⟨y,u,rfl,e⟩
  . exact nomatch e
  . injection e with e1 _;subst e1;cases v<;>rfl
theorem y7(prog:Program)(w:World)(i:Int)(t:Tok):(pP prog w).is (.inl i) (.int i t)=true:=CO i t
theorem za(prog:Program)(w:World)(x:Str)(t:Tok):(pP prog w).is (.inr x) (.str x t)=true:=CP x t
inductive V where
 |non|bl (b:Bool)|int (i:Int)|str (x:Str)|byt (b:Array UInt8)|flt (b:UInt64)|ref (a:Addr)|ty (n:String)
 deriving DecidableEq
def cq:V->Value->Prop
 |.non,u=>u=Value.none
 |.bl b,u=>u=Value.bool b
 |.int i,u=>∃t,u=Value.int i t
 |.str x,u=>∃t,u=Value.str x t
 |.byt b,u=>∃t,u=Value.bytes b t
 |.flt b,u=>∃t,u=Value.float b t
 |.ref a,u=>u=Value.ref a
 |.ty n,u=>u=Value.type n
abbrev cK:List V->List Value->Prop:=Paired cq
theorem cK.length{xs:List V}{us:List Value}(r:cK xs us):xs.length=us.length:=Paired.length r
theorem cK.get:∀{xs:List V}{us:List Value}{i:Nat}{x:V},cK xs us->xs[i]?=some x->∃u,us[i]?=some u/\cq x u
 |_,_,_,_,.nil,e=>by simp at e
 |_,_,0,_,.cons r _,e=>by simp at e;subst e;exact⟨_,rfl,r⟩
 | _,_,i+1,x,.cons _ t,e=>by obtain⟨u,h1,h2⟩:=cK.get (i:=i) (x:=x) t (by simpa using e);exact⟨u,by simpa using h1,h2⟩
theorem cK.set{x:V}{u:Value}(r:cq x u):∀{xs:List V}{us:List Value}(i:Nat),cK xs us->cK (xs.set i x) (us.set i u)
 |_,_,_,.nil=>.nil
 |_,_,0,.cons _ t=>.cons r t
 |_,_,i+1,.cons q t=>.cons q (cK.set r i t)
theorem cK.append:∀{xs ys:List V}{us ws:List Value},cK xs us->cK ys ws->cK (xs++ys) (us++ws)
 |_,_,_,_,.nil,s=>s
 |_,_,_,_,.cons r t,s=>.cons r (cK.append t s)
theorem cK.take:∀{xs:List V}{us:List Value}(n:Nat),cK xs us->cK (xs.take n) (us.take n)
 |_,_,0,_=>.nil
 |_,_,_+1,.nil=>.nil
 |_,_,n+1,.cons r t=>.cons r (cK.take n t)
theorem cK.drop:∀{xs:List V}{us:List Value}(n:Nat),cK xs us->cK (xs.drop n) (us.drop n)
 |_,_,0,r=>r
 |_,_,_+1,.nil=>.nil
 |_,_,n+1,.cons _ t=>cK.drop n t
def Nv:Option V->Option Value->Prop
 |some v,some u=>cq v u
 |none,none=>True
 |_,_=>False
def KV{κ:Type}:List (κ×V)->List (κ×Value)->Prop:=Paired λ(p:κ×V) (q:κ×Value)=>p.1=q.1/\cq p.2 q.2
noncomputable def kV:PX->V
 |.inl i=>.int i
 |.inr x=>.str x
inductive HO where
 |lst (xs:List V)
 |tup (xs:List V)
 |dK (kvs:List (PX×V))|dT (kvs:List (List PX×V))
 |set (S:Int->Bool) (n:Nat)
 |ins (C dx:Addr) (fs:List (Str×V))
 |own (x:Addr)
 |xd (fs:List (Str×V))
 |met (f x:Addr)
 |rng (lo hi:Int)
 |frz (o:Obj) (u:HO)
 |tbl (q:Str)
 |ext (φ:Heap->Prop)
noncomputable abbrev Hp:=Addr->Option HO
noncomputable def PY(H:Hp)(a:Addr)(o:HO):Hp:=λb=>if b=a then some o else H b
theorem bC{H:Hp}{a:Addr}{o:HO}:PY H a o a=some o:=by unfold PY;rw[if_pos rfl]
theorem aG{H:Hp}{a b:Addr}{o:HO}(h:b≠a):PY H a o b=H b:=by unfold PY;rw[if_neg h]
theorem bD{H:Hp}{a b:Addr}{o:HO}(h:H a=some o)(h':H b=none):a≠b:=by intro e;subst e;rw[h]at h';cases h'
def si(oc:Obj)(q:Str):Prop:=∃vs t,oc.data=.fields vs/\vs[1]?=some (.str q t)
section
variable(P:Program)(w:World)
def iH(H:Hp)(h:Heap)(a:Addr):HO->Prop
 |.lst xs=>xs.length<=sizeLine/\∃(its:List Value)(n:Nat),cK xs its/\h.get? a=some {cls:=.type "list",data:=.seq its.toArray n}
 |.tup xs=>xs.length<=sizeLine/\∃its:List Value,cK xs its/\IsTup h a its.toArray
 |.dK kvs=>kvs.length<=sizeLine/\(a == sysModules)=false/\∃vs,KV kvs vs/\h.DictOf (pP P w) a vs
 | .dT kvs=>kvs.length<=sizeLine/\(a == sysModules)=false/\∃xs:List (List PX×Addr×Value),
   Paired (λ(p:List PX×V) (q:List PX×Addr×Value)=>p.1=q.1/\H q.2.1=some (.tup (p.1.map kV))/\cq p.2 q.2.2) kvs xs /\
   ∃o es ep,h.get? a=some o/\o.ExactDict/\o.data=.dict es ep/\es.toList=xs.map (entryOfKey (tupleKind (pP P w)))/\(xs.map (·.1)).Nodup
 |.set S n=>h.SetOf (intKind P w) a S n
 | .ins C dx fs=>H dx=some (.own a)/\fs.length<=1000/\dx≠a/\h.get? a=some (PySem.W.instObj C dx) /\
   ∃mA,h.Ns1 dx mA/\(∀f,Nv (fs.lookup f) (mA f))/\PySem.Within mA (fs.map (·.1))
 |.own _=>∃o,h.get? a=some o
 |.xd fs=>∃mA,h.Ns1 a mA/\∀f,Nv (fs.lookup f) (mA f)
 |.rng lo hi=>∃ t u v,h.get? a=some {cls:=.type "range",data:=.fields #[.int lo t,.int hi u,.int 1 v] }
 |.frz o u=>h.get? a=some o/\iH H h a u
 |.tbl q=>∃ps:Array Value,h.get? a=some {cls:=.none,data:=.fields ps}/\TriplesOk ps.toList/\∀pos cv,codeAmong pos ps.toList=some cv->∃c' oc,cv=.ref c'/\H c'=some (.frz oc (.own c'))/\si oc q
 |.met f x=>h.get? a=some (PySem.W.methodObj (.ref f) (.ref x))
 |.ext φ=>φ h/\(∃o,h.get? a=some o)/\∀h1 h2:Heap,φ h1->(∀o,h1.get? a=some o->h2.get? a=some o)->φ h2
def PZ(H:Hp)(h:Heap):Prop:=∀a o,H a=some o->iH P w H h a o
end
section
variable{P:Program}{w:World}{H H':Hp}{h h':Heap}{a:Addr}{o:HO}
theorem iH.lt(x:iH P w H h a o):a<h.objs.size:=by
 cases o with
 |lst xs=>obtain⟨_,_,_,_,e⟩:=x;exact UR e
 |tup xs=>obtain⟨_,_,_,p⟩:=x;exact p.lt
 |dK kvs=>obtain⟨_,_,_,_,o,_,_,e,_⟩:=x;exact UR e
 |dT kvs=>obtain⟨_,_,_,_,o,_,_,e,_⟩:=x;exact UR e
 |set S n=>obtain⟨o,_,_,_,e,_⟩:=x;exact UR e
 |ins C dx fs=>obtain⟨_,_,_,e,_⟩:=x;exact UR e
 |own y=>obtain⟨_,e⟩:=x;exact UR e
 |xd fs=>obtain⟨_,⟨_,_,_,e,_⟩,_⟩:=x;exact UR e
 |rng lo hi=>obtain⟨_,_,_,e⟩:=x;exact UR e
 |frz ob u=>obtain⟨e,_⟩:=x;exact UR e
 |tbl q=>obtain⟨_,e,_⟩:=x;exact UR e
 |met f y=>exact UR (show h.get? a=some _ from x)
 |ext φ=>obtain⟨_,⟨_,e⟩,_⟩:=x;exact UR e
theorem Paired.mapP{α β:Type}{F G:α->β->Prop}:∀{l₁:List α}{l₂:List β},Paired F l₁ l₂->(∀a b,F a b->G a b)->Paired G l₁ l₂
 |_,_,.nil,_=>.nil
 |_,_,.cons r t,f=>.cons (f _ _ r) (Paired.mapP t f)
theorem iH.stay(x:iH P w H h a o)(k:∀b u,(b=a∨H b=some (.own a))->h.get? b=some u->h'.get? b=some u)
  (ho:∀b,H b=some (.own a)->H' b=some (.own a)) (ht:∀b xs,H b=some (.tup xs)->H' b=some (.tup xs)) (hf:∀b o q,si o q->H b=some (.frz o (.own b))->H' b=some (.frz o (.own b))):iH P w H' h' a o:=by
 induction o with
 |lst xs=>obtain⟨z,its,n,r,e⟩:=x;exact⟨z,its,n,r,k _ _ (.inl rfl) e⟩
 |tup xs=>obtain⟨z,its,r,ob,e,c⟩:=x;exact⟨z,its,r,ob,k _ _ (.inl rfl) e,c⟩
 |dK kvs=>obtain⟨z,y,vs,r,ob,es,ep,e,c⟩:=x;exact⟨z,y,vs,r,ob,es,ep,k _ _ (.inl rfl) e,c⟩
 | dT kvs =>
  obtain⟨z,y,xs,r,ob,es,ep,e,c⟩:=x;exact⟨z,y,xs,Paired.mapP r λp q z=>⟨z.1,ht _ _ z.2.1,z.2.2⟩,ob,es,ep,k _ _ (.inl rfl) e,c⟩
 |set S n=>obtain⟨ob,es,ep,t,e,c⟩:=x;exact⟨ob,es,ep,t,k _ _ (.inl rfl) e,c⟩
 | ins C dx fs =>
  obtain⟨d,z,ne,e,mA,⟨od,es,ep,e2,c⟩,r⟩:=x;exact⟨ho _ d,z,ne,k _ _ (.inl rfl) e,mA,⟨od,es,ep,k _ _ (.inr d) e2,c⟩,r⟩
 |own y=>obtain⟨ob,e⟩:=x;exact⟨ob,k _ _ (.inl rfl) e⟩
 |xd fs=>obtain⟨mA,⟨od,es,ep,e,c⟩,r⟩:=x;exact⟨mA,⟨od,es,ep,k _ _ (.inl rfl) e,c⟩,r⟩
 |rng lo hi=>obtain⟨t,u,v,e⟩:=x;exact⟨t,u,v,k _ _ (.inl rfl) e⟩
 |frz ob u ih=>obtain⟨e,q⟩:=x;exact⟨k _ _ (.inl rfl) e,ih q⟩
 | tbl q =>
  obtain⟨ps,e,tr,m⟩:=x
  exact⟨ps,k a _ (.inl rfl) e,tr,λpos cv z=>let ⟨c',oc,a1,a2,a3⟩:=m pos cv z;⟨c',oc,a1,hf _ _ _ a3 a2,a3⟩⟩
 | met f y =>
  have e:h.get? a=some (PySem.W.methodObj (.ref f) (.ref y)):=x;show h'.get? a=some (PySem.W.methodObj (.ref f) (.ref y));exact k a _ (.inl rfl) e
 |ext φ=>obtain⟨p,⟨o,e⟩,st⟩:=x;exact⟨st _ _ p λo q=>k _ _ (.inl rfl) q,⟨o,k _ _ (.inl rfl) e⟩,st⟩
theorem PZ.lt(x:PZ P w H h)(e:H a=some o):a<h.objs.size:=(x a o e).lt
theorem PZ.fresh(x:PZ P w H h)(e:h.objs.size<=a):H a=none:=by
 cases q:H a with
 |none=>rfl
 |some u=>exact absurd (so (x.lt q) e) (V5 _)
theorem PZ.kept(x:PZ P w H h)(k:∀b u,h.get? b=some u->h'.get? b=some u):PZ P w H h':=λa o e =>
 (x a o e).stay (λb u _ q=>k b u q) (λ_ q=>q) (λ_ _ q=>q) λ_ _ _ _ q=>q
theorem PZ.laid(x:PZ P w H h)(k:∀b u,h.get? b=some u->h'.get? b=some u)(hp:h.objs.size<=a)(new:iH P w (PY H a o) h' a o):PZ P w (PY H a o) h':=λb u e=>by
 have hn:=x.fresh hp;by_cases hb:b=a
 . subst hb;rw[bC]at e;cases e;exact new
 . rw[aG hb]at e;exact(x b u e).stay (λc v _ q=>k c v q) (λc q=>by rw[aG (bD q hn)];exact q) (λc xs q=>by rw[aG (bD q hn)];exact q) λc ob _ _ q=>by rw[aG (bD q hn)];exact q
end
def Rd(H:Hp)(a:Addr)(u:HO):Prop:=H a=some u∨∃o,H a=some (.frz o u)
theorem Rd.ok{P:Program}{w:World}{H:Hp}{h:Heap}{a:Addr}{u:HO}(r:Rd H a u)(x:PZ P w H h):iH P w H h a u:=by
 rcases r with r|⟨o,r⟩
 . exact x a u r
 . obtain⟨_,q⟩:=x a _ r;exact q
def P0:Option HO->Prop
 |some (.lst _)=>True
 |some (.dK _)=>True
 |some (.dT _)=>True
 |some (.set _ _)=>True
 |some (.ins _ _ _)=>True
 |some (.ext _)=>True
 |_=>False
section
variable{P:Program}{w:World}{H:Hp}{h h':Heap}{x e:Addr}{o':HO}
theorem PZ.write(ok:PZ P w H h)(mu:P0 (H x))(he:e=x∨H e=some (.own x))(k:∀b u,b≠e->h.get? b=some u->h'.get? b=some u)(heo:∃u,h'.get? e=some u)
  (new:iH P w (PY H x o') h' x o'):PZ P w (PY H x o') h':=λb u q=>by
 have nown:∀c y,H c=some (.own y)->c≠x:=λc y r z=>by subst z;rw[r]at mu;exact mu
 have ntup:∀c xs,H c=some (.tup xs)->c≠x:=λc xs r z=>by subst z;rw[r]at mu;exact mu
 have nfrz:∀c o u,H c=some (.frz o u)->c≠x:=λc o u r z=>by subst z;rw[r]at mu;exact mu
 by_cases hb:b=x
 . subst hb;rw[bC]at q;cases q;exact new
 .
  rw[aG hb]at q;by_cases hbe:b=e
  .
   have q':H b=some (.own x):=by
    rcases he with z|z
    . exact absurd (hbe.trans z) hb
    . rw[hbe];exact z
   rw[q]at q';cases q';obtain⟨v,hv⟩:=heo;exact⟨v,by rw[hbe];exact hv⟩
  .
   refine(ok b u q).stay (λc v hc r=>k c v ?_ r) (λc r=>by rw[aG (nown c b r)];exact r) (λc xs r=>by rw[aG (ntup c xs r)];exact r) λc ob _ _ r=>by rw[aG (nfrz c ob _ r)];exact r
   rcases hc with rfl|hc
   . exact hbe
   .
    rintro rfl;rcases he with z|z
    . exact nown c b hc z
    . rw[hc]at z;cases z;exact hb rfl
end
structure Un (fs ex:List Addr) (H H':Hp) (h h':Heap):Prop where
 keep:∀b o,h.get? b=some o->H b=none->b∉fs->b∉ex->h'.get? b=some o
 slot:∀b o,h.get? b=some o->H b=none->b∈fs->b∉ex->∃sl,h'.get? b=some {o with slots:=sl}
 free:∀b o,h.get? b=some o->H b=none->b∉ex->H' b=none
 there:∀b o,h.get? b=some o->b∉ex->∃o',h'.get? b=some o'
 tups:∀b xs,H b=some (.tup xs)->H' b=some (.tup xs)
 frzs:∀b o u,H b=some (.frz o u)->H' b=some (.frz o u)
 tbls:∀b q,H b=some (.tbl q)->H' b=some (.tbl q)
section
variable{fs fs' ex ex':List Addr}{H H1:Hp}{h h1 h':Heap}{a x e:Addr}{o:HO}
theorem Un.any(u:Un fs ex H H1 h h1){b:Addr}{ob:Obj}(q:h.get? b=some ob)(n:H b=none)(hx:b∉ex):∃sl,h1.get? b=some {ob with slots:=sl}:=by
 by_cases hb:b∈fs
 . exact u.slot b ob q n hb hx
 . exact⟨ob.slots,u.keep b ob q n hb hx⟩
theorem Un.kept(k:∀b u,h.get? b=some u->h'.get? b=some u):Un fs ex H H h h' :=
 ⟨λb ob q _ _ _=>k b ob q,λb ob q _ _ _=>⟨ob.slots,k b ob q⟩,λ_ _ _ n _=>n,λb ob q _=>⟨ob,k b ob q⟩,λ_ _ q=>q,λ_ _ _ q=>q,λ_ _ q=>q⟩
theorem Un.refl:Un fs ex H H h h:=Un.kept λ_ _ q=>q
theorem Un.laid(k:∀b u,h.get? b=some u->h'.get? b=some u)(hp:h.objs.size<=a)(hn:H a=none):Un fs ex H (PY H a o) h h' where
 keep:=λb u q _ _ _=>k b u q
 slot:=λb u q _ _ _=>⟨u.slots,k b u q⟩
 free:=λb u q n _=>by rw[aG (U7 (so (UR q) hp))];exact n
 there:=λb u q _=>⟨u,k b u q⟩
 tups:=λb xs q=>by rw[aG (bD q hn)];exact q
 frzs:=λb u xs q=>by rw[aG (bD q hn)];exact q
 tbls:=λb ps q=>by rw[aG (bD q hn)];exact q
theorem Un.write(mu:P0 (H x))(he:e=x∨H e=some (.own x))(k:∀b u,b≠e->h.get? b=some u->h'.get? b=some u)(heo:∃u,h'.get? e=some u):Un fs ex H (PY H x o) h h':=by
 have hx:∀b,H b=none->b≠x:=λb n z=>by subst z;rw[n]at mu;exact mu
 have hb:∀b,H b=none->b≠e:=λb n z=>by
  subst z;rcases he with r|r
  . exact hx b n r
  . rw[n]at r;cases r
 have hm:∀b u,H b=some u->¬P0 (some u)->b≠x:=λb u q nm z=>by subst z;rw[q]at mu;exact nm mu
 refine⟨λb u q n _ _=>k b u (hb b n) q,λb u q n _ _=>⟨u.slots,k b u (hb b n) q⟩,λb u q n _=>by rw[aG (hx b n)];exact n,λb u q _=>?_,
  λb xs q=>by rw[aG (hm b _ q λz=>z)];exact q,λb u xs q=>by rw[aG (hm b _ q λz=>z)];exact q,λb ps q=>by rw[aG (hm b _ q λz=>z)];exact q⟩
 by_cases hbe:b=e
 . subst hbe;exact heo
 . exact⟨u,k b u hbe q⟩
theorem Un.mono(u:Un fs ex H H1 h h1)(hs:∀b∈fs,b∈fs')(hx:∀b∈ex,b∈ex'):Un fs' ex' H H1 h h1 :=
 ⟨λb ob q n hb he=>u.keep b ob q n (λz=>hb (hs b z)) λz=>he (hx b z),λ_ _ q n _ he=>u.any q n λz=>he (hx _ z),λb ob q n he=>u.free b ob q n λz=>he (hx b z),λb ob q he=>u.there b ob q λz=>he (hx b z),u.tups,u.frzs,u.tbls⟩
end
noncomputable def P1(h:Heap)(H:Hp):List Addr:=(List.range h.objs.size).filter λa=>(H a).isSome
noncomputable def Fu(h:Heap)(H:Hp):Heap:=PySem.W.hideAll h (P1 h H)
theorem CQ(h:Heap)(H:Hp):(Fu h H).objs.size=h.objs.size:=PySem.W.hideAll_size _ _
theorem Fv{h:Heap}{H:Hp}{b:Addr}{o:Obj}(e:h.get? b=some o)(n:H b=none):(Fu h H).get? b=some o :=
 PySem.W.hideAll_get _ e λhm=>by have q:(H b).isSome=true:=(VG.mp hm).2;rw[n]at q;simp at q
theorem IL{h:Heap}{H:Hp}{b:Addr}{o:Obj}(e:(Fu h H).get? b=some o):h.get? b=some o/\H b=none:=by
 have e':h.get? b=some o:=PySem.W.of_hideAll (P1 h H) e;refine⟨e',?_⟩
 cases q:H b with
 |none=>rfl
 | some x =>
  have hm:b∈P1 h H:=VG.mpr ⟨Vd.mpr (UR e'),by simp[q]⟩;have z:(Fu h H).get? b=none:=PySem.W.hideAll_none (P1 h H) hm;rw[z]at e;cases e
noncomputable def pQ(g h:Heap)(L:Addr):List (Addr×Obj):=(List.range h.objs.size).filterMap λa=>if a=L∨(g.get? a).isSome=true then none else(h.get? a).map λo=>(a,o)
theorem nA{g h:Heap}{L a:Addr}{o:Obj}(h1:a≠L)(h2:g.get? a=none)(h3:h.get? a=some o):(a,o)∈pQ g h L :=
 Wt.mpr ⟨a,Vd.mpr (UR h3),by simp[h1,h2,h3]⟩
theorem mF{g h:Heap}{L:Addr}{p:Addr×Obj}(hp:p∈pQ g h L):p.1≠L/\g.get? p.1=none/\h.get? p.1=some p.2:=by
 obtain⟨b,_,e⟩:=Wt.mp hp;split at e
 . cases e
 .
  rename_i hn
  cases q:h.get? b with
  |none=>rw[q]at e;simp at e
  | some u =>
   rw[q]at e;simp only[Option.map_some,Vl]at e;subst e;refine⟨λz=>hn (.inl z),?_,q⟩;show g.get? b=none
   cases r:g.get? b with
   |none=>rfl
   |some v=>exact(hn (.inr (by simp[r]))).elim
noncomputable def rest(g h:Heap)(L d:Addr):List (Addr×Obj):=(pQ g h L).filter λp=>decide (p.1≠d)
theorem AJ{g h:Heap}{L:Addr}:News g L h (pQ g h L):=λp hp=>let ⟨a,b,c⟩:=mF hp;⟨c,a,b⟩
def Le(mg:Str->Option Value)(h:Heap):Prop:=∃ bm ob,mg "__builtins__"=some (.ref bm)/\bm≠builtinsNs/\h.get? bm=some ob/\ob.cls=.type "module"/\ob.dict=some builtinsNs/\ob.data=.plain
noncomputable def lamNames:List Str:=["look_at_asks","by_lesser_place","look_at_string"]
noncomputable def uZ(x:Str):Str:=(x++".<locals>.")++"<lambda>"
def P2(K:PySem.W.Frag)(H:Hp):Prop:=∀x∈lamNames,∀c P,PySem.W.tabIn K x=some (c,P)->H P=some (.tbl (uZ x))
theorem P2.un{K:PySem.W.Frag}{fs ex:List Addr}{H H':Hp}{h h':Heap}(t:P2 K H)(u:Un fs ex H H' h h'):P2 K H':=λx hx c P e=>u.tbls _ _ (t x hx c P e)
structure Mod (K:PySem.W.Frag) (mg:Str->Option Value) (base:Heap):Prop where
 kin:K.In base
 glob:base.Ns mainGlobals mg
 blt:∃ mb,base.Ns builtinsNs mb/\∀ x:Str,x≠"__name__"->mb x=bootBuiltins x
 nolimit:base.NoLimit
 sysm:∃mm,base.Ns sysModules mm
 bmn:Le mg base
 cds:∀x∈lamNames,∀c P,PySem.W.tabIn K x=some (c,P)->PySem.W.CodeHd base c P
/-- the context: a def's body (or a comprehension's IM) running. base: fixed through the whole law;s₀,H₀: the entry;outer: the frames whose slots others may change (a def's callers);stack: all frames that run;
  ex: iterators that were made ahead of the entry and are walked here (a comprehension's);fn: the names whose cells were made at the entry (a def: all;a comprehension's IM: its own);calm: not CS an except suite;pn: ab that every state bears;xe: what is wanted of an exception that leaves the code -/
structure Cx where
 prog:Program
 w:World
 K:PySem.W.Frag
 mg:Str->Option Value
 base:Heap
 A:Around
 N:List Str
 s₀:Shared
 H₀:Hp
 env:Env
 outer:List Env
 stack:List Env
 ex:List Addr
 fn:Str->Bool
 calm:Bool
 pn:List (Addr×Obj)
 xe:Value->Shared->Prop
noncomputable def P4(l:List Env):List Addr:=l.filterMap (·.frame)
noncomputable abbrev Cx.fs(X:Cx):List Addr:=P4 X.outer
def P5(sc:Scope)(x:Str):Prop:=sc.names.lookup x=some .local∨sc.names.lookup x=some .cell∨sc.names.lookup x=some .free
def P6(sc:Scope)(x:Str):Prop:=sc.names.lookup x=some .local∨sc.names.lookup x=some .cell
def O9(env:Env)(h:Heap)(m:Str->Option Value)(x:Str)(u:Value):Prop :=
 (env.kindOf x=some .local/\m x=some u)∨((env.kindOf x=some .cell∨env.kindOf x=some .free)/\∃c,env.cells.lookup x=some c/\h.IsCell c (some u))
structure Cx.Ok (X:Cx):Prop where
 mod:Mod X.K X.mg X.base
 kind:X.env.scope.kind=.function
 glob:X.env.globals=mainGlobals
 blt:X.env.builtins=builtinsNs
 above:X.s₀.heap.objs.size<=X.env.locals
 inj:∀x y c,X.env.cells.lookup x=some c->X.env.cells.lookup y=some c->x=y
 has:∀x,(X.env.kindOf x=some .cell∨X.env.kindOf x=some .free)->∃c,X.env.cells.lookup x=some c
 cab:∀x c,X.fn x=true->X.env.cells.lookup x=some c->X.s₀.heap.objs.size<=c
 hd:X.calm=true->X.A.handled=none
 frames:X.A.frames=some X.stack
 stk:X.stack=X.outer∨(X.stack=X.env::X.outer/\X.env.frame=some X.env.locals)
 exf:∀b∈X.ex,b≠X.env.locals/\∀x c,X.env.cells.lookup x=some c->c≠b
 bs:∀b o,X.base.get? b=some o->X.s₀.heap.get? b=some o/\X.H₀ b=none
 bsz:X.base.objs.size<=X.s₀.heap.objs.size
 noex:∀b o,X.base.get? b=some o->b∉X.ex
 exfs:∀b∈X.ex,b∉X.fs
 funs:X.s₀.heap.FunFrames X.base X.outer
 frf:∀b∈X.fs,X.H₀ b=none
 tbs:P2 X.K X.H₀
structure P7 (X:Cx) (ab:List (Addr×Obj)) (σ:List (Option V)) (H:Hp) (s:Shared):Prop where
 ok:X.Ok
 os:s.os=X.s₀.os
 bare:AllBare s.gens
 base:Un X.fs X.ex X.H₀ H X.s₀.heap s.heap
 loc:∃m,s.heap.Ns X.env.locals m/\∀(i:Nat)(x:Str)(v:V),X.N[i]?=some x->σ[i]?=some (some v)->P5 X.env.scope x->∃u,cq v u/\O9 X.env s.heap m x u
 cell:∀x c,X.env.cells.lookup x=some c->∃v,s.heap.IsCell c v
 free:H X.env.locals=none
 freeC:∀x c,X.env.cells.lookup x=some c->H c=none∨(X.fn x=false/\∃o,H c=some (.frz o (.own c)))
 pin:∀p∈X.pn++ab,s.heap.get? p.1=some p.2/\H p.1=none/\p.1≠X.env.locals/\p.1∉X.fs/\∀v,p.2.data≠.cell v
 hok:PZ X.prog X.w H s.heap
 len:σ.length=X.N.length
section
variable{X:Cx}{ab:List (Addr×Obj)}{σ:List (Option V)}{H H':Hp}{s:Shared}{h':Heap}
theorem Cx.Ok.nofr(ok:X.Ok){b:Addr}{o:Obj}(e:X.base.get? b=some o):b∉X.fs:=λhb=>by have:=(ok.funs.mem hb).1;rw[e]at this;cases this
theorem P7.bs(I:P7 X ab σ H s):∀b o,X.base.get? b=some o->s.heap.get? b=some o/\H b=none:=λb o e =>
 ⟨I.base.keep b o (I.ok.bs b o e).1 (I.ok.bs b o e).2 (I.ok.nofr e) (I.ok.noex b o e),I.base.free b o (I.ok.bs b o e).1 (I.ok.bs b o e).2 (I.ok.noex b o e)⟩
theorem P7.bk(I:P7 X ab σ H s):∀b o,X.base.get? b=some o->s.heap.get? b=some o:=λb o e=>(I.bs b o e).1
theorem P7.tbs(I:P7 X ab σ H s):P2 X.K H:=I.ok.tbs.un I.base
theorem P7.mod(I:P7 X ab σ H s):Mod X.K X.mg X.base:=I.ok.mod
theorem P7.kIn(I:P7 X ab σ H s):X.K.In s.heap:=I.ok.mod.kin.keeps I.bk
theorem P7.lt(I:P7 X ab σ H s):X.env.locals<s.heap.objs.size:=let ⟨_,hn,_⟩:=I.loc;hn.lt
theorem P7.sz(I:P7 X ab σ H s):X.s₀.heap.objs.size<=s.heap.objs.size:=UT I.ok.above (WJ I.lt)
theorem P7.nofs(I:P7 X ab σ H s){a:Addr}(h:s.heap.objs.size<=a):a∉X.fs:=λhb=>by obtain⟨_,o,ho,_⟩:=I.ok.funs.mem hb;exact absurd (so (UR ho) (UT I.sz h)) (V5 _)
theorem P7.cne(I:P7 X ab σ H s):∀x c,X.env.cells.lookup x=some c->c≠X.env.locals:=λx c e z=>by obtain⟨v,o,ho,hd⟩:=I.cell x c e;obtain⟨m,⟨o',es,ep,ho',hd',_⟩,_⟩:=I.loc;rw[z,ho']at ho;cases ho;rw[hd']at hd;cases hd
theorem P7.funs(I:P7 X ab σ H s):s.heap.FunFrames X.base X.outer:=by
 have all:∀(l:List Env),(∀b∈P4 l,b∈X.fs)->X.s₀.heap.FunFrames X.base l->s.heap.FunFrames X.base l:=by
  intro l
  induction l with
  |nil=>intro _ _;trivial
  | cons env r ih =>
   intro hs hl;obtain⟨hk,⟨L,o,hf,hn,ho,hd⟩,hr⟩:=hl;have hL:L∈X.fs:=hs L (by unfold P4;rw[Vz,hf];exact p4);obtain⟨sl,e⟩:=I.base.slot L o ho (I.ok.frf L hL) hL λz=>I.ok.exfs L z hL;exact⟨hk,⟨L,_,hf,hn,e,hd⟩,ih (λb hb=>hs b (by unfold P4;rw[Vz,hf];exact gV _ hb)) hr⟩
 exact all X.outer (λ_ hb=>hb) I.ok.funs
theorem P7.stack(I:P7 X ab σ H s):s.heap.FunFrames X.base X.stack:=by
 rcases I.ok.stk with e|⟨e,hf⟩
 . rw[e];exact I.funs
 . rw[e];obtain⟨m,hn,_⟩:=I.loc;refine .cons (by rw[I.ok.kind];decide) hf hn ?_ I.funs;exact Heap.get?_none_of_le (UT I.ok.bsz I.ok.above)
theorem P7.stkSub(I:P7 X ab σ H s):∀b∈P4 X.stack,b∈X.env.locals::X.fs:=λb hb=>by
 rcases I.ok.stk with e|⟨e,hf⟩
 . rw[e]at hb;exact gV _ hb
 . rw[e]at hb;unfold P4 at hb;rw[Vz,hf]at hb;exact hb
theorem P7.stkFree(I:P7 X ab σ H s):∀b∈P4 X.stack,H b=none:=λb hb=>by
 rcases UV.mp (I.stkSub b hb)with e|hb
 . rw[e];exact I.free
 . obtain⟨_,o,ho,_⟩:=I.ok.funs.mem hb;exact I.base.free b o ho (I.ok.frf b hb) λz=>I.ok.exfs b z hb
theorem P7.step{g':Array GenState}{t':Nat}{d':Drawn}{ch:List Addr}(I:P7 X ab σ H s)
  (hch:∀b∈ch,(b∈X.ex∨X.s₀.heap.objs.size<=b)/\b≠X.env.locals/\(∀x c,X.env.cells.lookup x=some c->c≠b)/\∀p∈X.pn++ab,p.1≠b)
  (keep:∀b o,b≠X.env.locals->b∉X.fs->b∉ch->s.heap.get? b=some o->H b=none->h'.get? b=some o)
  (slot:∀b o,b≠X.env.locals->b∈X.fs->b∉ch->s.heap.get? b=some o->H b=none->∃sl,h'.get? b=some {o with slots:=sl}) (free:∀b o,b∉ch->s.heap.get? b=some o->H b=none->H' b=none)
  (there:∀b o,b∉ch->s.heap.get? b=some o->∃o',h'.get? b=some o')
  (tups:∀b xs,H b=some (.tup xs)->H' b=some (.tup xs)) (frzs:∀b o u,H b=some (.frz o u)->H' b=some (.frz o u)) (tbls:∀b q,H b=some (.tbl q)->H' b=some (.tbl q))
  (ns:∀m,s.heap.Ns X.env.locals m->h'.Ns X.env.locals m) (hok:PZ X.prog X.w H' h') (hg:AllBare g') :
  P7 X ab σ H' {s with heap:=h',gens:=g',drawn:=d',toks:=t' }:=by
 have neL:∀b o,X.s₀.heap.get? b=some o->b≠X.env.locals:=λb o e=>U7 (so (UR e) I.ok.above)
 have neC:∀b o,X.s₀.heap.get? b=some o->b∉X.ex->b∉ch:=λb o e hx hb=>by
  rcases(hch b hb).1 with z|z
  . exact hx z
  . exact absurd (so (UR e) z) (V5 _)
 have cellK:∀x c,X.env.cells.lookup x=some c->∀v,s.heap.IsCell c v->h'.IsCell c v:=λx c e v ⟨o,ho,hd⟩=>by
  have nch:c∉ch:=λz=>(hch c z).2.2.1 x c e rfl;rcases I.freeC x c e with hn|⟨_,o2,hz⟩
  .
   by_cases hc:c∈X.fs
   . obtain⟨sl,q⟩:=slot c o (I.cne x c e) hc nch ho hn;exact⟨_,q,hd⟩
   . exact⟨o,keep c o (I.cne x c e) hc nch ho hn,hd⟩
  . have e1:=(I.hok c _ hz).1;rw[ho]at e1;cases e1;exact⟨o,(hok c _ (frzs c _ _ hz)).1,hd⟩
 refine⟨I.ok,I.os,hg,⟨λb o e n hb hx=>?_,λb o e n hb hx=>?_,λb o e n hx=>?_,λb o e hx=>?_,λb xs e=>tups b xs (I.base.tups b xs e),λb o xs e=>frzs b o xs (I.base.frzs b o xs e),λb ps e=>?_⟩,?_,λx c e=>?_,?_,λx c e=>?_,λp hp=>?_,hok,I.len⟩
 . exact keep b o (neL b o e) hb (neC b o e hx) (I.base.keep b o e n hb hx) (I.base.free b o e n hx)
 . obtain⟨sl,e1⟩:=I.base.slot b o e n hb hx;obtain⟨sl',e2⟩:=slot b _ (neL b o e) hb (neC b o e hx) e1 (I.base.free b o e n hx);exact⟨sl',e2⟩
 . obtain⟨o',e1⟩:=I.base.there b o e hx;exact free b o' (neC b o e hx) e1 (I.base.free b o e n hx)
 . obtain⟨o',e1⟩:=I.base.there b o e hx;exact there b o' (neC b o e hx) e1
 . exact tbls b ps (I.base.tbls b ps e)
 .
  obtain⟨m,hn,hl⟩:=I.loc;refine⟨m,ns m hn,λi x v e1 e2 e3=>?_⟩;obtain⟨u,r,l⟩:=hl i x v e1 e2 e3;refine⟨u,r,?_⟩;rcases l with l|⟨k,c,e,z⟩
  . exact .inl l
  . exact .inr ⟨k,c,e,cellK x c e _ z⟩
 . obtain⟨v,z⟩:=I.cell x c e;exact⟨v,cellK x c e v z⟩
 . obtain⟨m,⟨o,_,_,ho,_⟩,_⟩:=I.loc;exact free _ o (λz=>(hch _ z).2.1 rfl) ho I.free
 .
  obtain⟨v,o,ho,hd⟩:=I.cell x c e;rcases I.freeC x c e with hn|⟨hf,o2,hz⟩
  . exact .inl (free c o (λz=>(hch c z).2.2.1 x c e rfl) ho hn)
  . exact .inr ⟨hf,o2,frzs c _ _ hz⟩
 . obtain⟨e,n,ne,nf,d⟩:=I.pin p hp;have nch:p.1∉ch:=λz=>(hch p.1 z).2.2.2 p hp rfl;exact⟨keep p.1 p.2 ne nf nch e n,free p.1 p.2 nch e n,ne,nf,d⟩
theorem P7.un{t':Nat}(I:P7 X ab σ H s)(u:Un X.fs [] H H' s.heap h')(hok:PZ X.prog X.w H' h'):P7 X ab σ H' {s with heap:=h',toks:=t' }:=by
 obtain⟨m,⟨o,es,ep,ho,r⟩,_⟩:=id I.loc;obtain⟨sl,hL⟩:=u.any ho I.free x_
 exact I.step (g':=s.gens) (d':=s.drawn) (ch:=[]) (λ_ z=>nomatch z) (λb o _ hb _ e n=>u.keep b o e n hb x_) (λb o _ hb _ e n=>u.slot b o e n hb x_) (λb o _ e n=>u.free b o e n x_) (λb o _ e=>u.there b o e x_) u.tups u.frzs u.tbls (λm' hm=>by
  obtain⟨o',es',ep',ho',r'⟩:=hm;rw[ho]at ho';cases ho'
  exact⟨_,es',ep',hL,r'⟩) hok I.bare
theorem P7.call{g':Array GenState}{t':Nat}{d':Drawn}{ch:List Addr}(I:P7 X ab σ H s)(u:Un (P4 X.stack) ch H H' s.heap h')(hok:PZ X.prog X.w H' h')(hg:AllBare g')
  (hch:∀b∈ch,(b∈X.ex∨X.s₀.heap.objs.size<=b)/\b≠X.env.locals/\(∀x c,X.env.cells.lookup x=some c->c≠b)/\∀p∈X.pn++ab,p.1≠b) :
  P7 X ab σ H' {s with heap:=h',gens:=g',drawn:=d',toks:=t' }:=by
 obtain⟨m,⟨o,es,ep,ho,r⟩,_⟩:=id I.loc;obtain⟨sl,hL⟩:=u.any ho I.free λz=>(hch _ z).2.1 rfl
 exact I.step (ch:=ch) hch (λb o hL hb hc e n=>u.keep b o e n (λz=>(UV.mp (I.stkSub b z)).elim hL hb) hc) (λb o _ _ hc e n=>u.any e n hc) (λb o hc e n=>u.free b o e n hc) (λb o hc e=>u.there b o e hc) u.tups u.frzs u.tbls (λm' hm=>by
  obtain⟨o',es',ep',ho',r'⟩:=hm;rw[ho]at ho';cases ho'
  exact⟨_,es',ep',hL,r'⟩) hok hg
theorem P7.turned{t':Nat}{it:Addr}(I:P7 X ab σ H s)(k:∀b o,b≠it->s.heap.get? b=some o->h'.get? b=some o)(hn:H it=none)(hL:it≠X.env.locals)
  (h1:it∈X.ex∨X.s₀.heap.objs.size<=it) (h2:∀x c,X.env.cells.lookup x=some c->c≠it) (h3:∀p∈X.pn++ab,p.1≠it):P7 X ab σ H {s with heap:=h',toks:=t' }:=by
 have nit:∀b u,H b=some u->b≠it:=λb u e z=>by rw[z,hn]at e;cases e
 refine I.step (g':=s.gens) (d':=s.drawn) (ch:=[it]) (λb hb=>?_) (λb o _ _ hc e _=>k b o (λz=>hc (by simp[z])) e) (λb o _ _ hc e _=>⟨o.slots,k b o (λz=>hc (by simp[z])) e⟩) (λ_ _ _ _ n=>n)
  (λb o hc e=>⟨o,k b o (λz=>hc (by simp[z])) e⟩) (λ_ _ e=>e) (λ_ _ _ e=>e) (λ_ _ e=>e) (λm hm=>?_) (λb u e=>?_) I.bare
 .
  have e:b=it:=by simpa using hb
  subst e;exact⟨h1,hL,h2,h3⟩
 . obtain⟨o,es,ep,ho,r⟩:=hm;exact⟨o,es,ep,k _ o (VB hL) ho,r⟩
 .
  refine(I.hok b u e).stay (λc v hc q=>k c v ?_ q) (λ_ q=>q) (λ_ _ q=>q) λ_ _ _ _ q=>q;rcases hc with z|z
  . rw[z];exact nit b u e
  . exact nit c _ z
theorem P7.tok(I:P7 X ab σ H s)(t:Nat):P7 X ab σ H {s with toks:=t}:=I.un (h':=s.heap) (t':=t) Un.refl I.hok
theorem P7.kept{t':Nat}(I:P7 X ab σ H s)(k:∀b u,s.heap.get? b=some u->h'.get? b=some u):P7 X ab σ H {s with heap:=h',toks:=t' }:=I.un (Un.kept k) (I.hok.kept k)
theorem P7.laid{a:Addr}{o:HO}{t':Nat}(I:P7 X ab σ H s)(k:∀b u,s.heap.get? b=some u->h'.get? b=some u)(hp:s.heap.objs.size<=a)(new:iH X.prog X.w (PY H a o) h' a o) :
  P7 X ab σ (PY H a o) {s with heap:=h',toks:=t' }:=I.un (Un.laid k hp (I.hok.fresh hp)) (I.hok.laid k hp new)
theorem P7.write{x e:Addr}{o:HO}{t':Nat}(I:P7 X ab σ H s)(mu:P0 (H x))(he:e=x∨H e=some (.own x))(k:∀b u,b≠e->s.heap.get? b=some u->h'.get? b=some u)(heo:∃u,h'.get? e=some u)
  (new:iH X.prog X.w (PY H x o) h' x o):P7 X ab σ (PY H x o) {s with heap:=h',toks:=t' }:=I.un (Un.write mu he k heo) (I.hok.write mu he k heo new)
theorem P7.pins_of{pins':List (Addr×Obj)}(I:P7 X ab σ H s)(h:∀p∈pins',s.heap.get? p.1=some p.2/\H p.1=none/\p.1≠X.env.locals/\p.1∉X.fs/\∀v,p.2.data≠.cell v):P7 X pins' σ H s :=
 ⟨I.ok,I.os,I.bare,I.base,I.loc,I.cell,I.free,I.freeC,λp hp=>(Vg.mp hp).elim (λz=>I.pin p (U8 _ z)) (h p),I.hok,I.len⟩
theorem AK{N:List Str}(hN:N.Nodup){i j:Nat}{x:Str}(a:N[i]?=some x)(b:N[j]?=some x):i=j:=by obtain⟨h1,e1⟩:=k5.mp a;obtain⟨h2,e2⟩:=k5.mp b;exact(List.getElem_inj hN).mp (e1.trans e2.symm)
theorem xk{M:Model}{A:Around}{E:Value->Shared->Prop}{i:Nat}{x:Str}{v:V}{u:Value}{Q:Unit->Shared->Prop}(I:P7 X ab σ H s)(hN:X.N.Nodup)(hi:X.N[i]?=some x)(hx:P6 X.env.scope x)(r:cq v u)
  (h:∀s',P7 X ab (σ.set i (some v)) H s'->(∃a,Heap.SameBut a s.heap s'.heap/\(a=X.env.locals∨X.env.cells.lookup x=some a))->Q () s') (hf:X.fn x=true∨X.env.scope.names.lookup x=some .local:=by first|exact .inl rfl|exact .inr rfl|assumption):wpAny M A (storeName X.env x u) Q E s:=by
 obtain⟨m,hn,hl⟩:=id I.loc;have hcls:(X.env.scope.kind == .class ||(X.env.scope.kind == .module && X.env.locals != X.env.globals))=false:=by rw[I.ok.kind];rfl
 have hiσ:i<σ.length:=by rw[I.len];exact(k5.mp hi).1
 have cne:=I.cne
 have tracked:∀{a:Addr}{h':Heap},(∃o,s.heap.get? a=some o/\H a=none)->Heap.SameBut a s.heap h'->PZ X.prog X.w H h':=λ{a h'} ha hs b ob e=>by
  obtain⟨_,_,hfree⟩:=ha;refine(I.hok b ob e).stay (λc w' hc q=>(hs.2 c ?_).trans q) (λ_ q=>q) (λ_ _ q=>q) λ_ _ _ _ q=>q;rintro rfl;rcases hc with rfl|hc
  . rw[hfree]at e;cases e
  . rw[hfree]at hc;cases hc
 rcases hx with hk|hk
 .
  refine wpAny_storeName_local hk hn (λh' hn' hs=>?_) hcls;obtain⟨oL,_,_,hoL,_⟩:=id hn;refine h _ ⟨I.ok,I.os,I.bare,⟨λb o e n hb hx=>?_,λb o e n hb hx=>?_,I.base.free,λb o e hx=>?_,I.base.tups,I.base.frzs,I.base.tbls⟩,⟨_,hn',λj y v' e1 e2 e3=>?_⟩,λy c e=>?_,I.free,I.freeC,λp hp=>?_,tracked ⟨oL,hoL,I.free⟩ hs,by simpa using I.len⟩ ⟨_,hs,.inl rfl⟩
  . exact(hs.2 b (U7 (so (UR e) I.ok.above))).trans (I.base.keep b o e n hb hx)
  . obtain⟨sl,e1⟩:=I.base.slot b o e n hb hx;exact⟨sl,(hs.2 b (U7 (so (UR e) I.ok.above))).trans e1⟩
  . obtain⟨o',e1⟩:=I.base.there b o e hx;exact⟨o',(hs.2 b (U7 (so (UR e) I.ok.above))).trans e1⟩
  .
   by_cases hj:j=i
   . subst hj;rw[hi]at e1;cases e1;rw[Vo hiσ]at e2;cases e2;exact⟨u,r,.inl ⟨hk,x_⟩⟩
   .
    rw[Vp (VB hj)]at e2;obtain⟨u',r',q⟩:=hl j y v' e1 e2 e3;refine⟨u',r',?_⟩;rcases q with⟨k,e⟩|⟨k,c,e,z⟩
    . refine .inl ⟨k,?_⟩;have:y≠x:=λe=>hj (AK hN e1 (e ▸ hi));simp[this,e]
    . exact .inr ⟨k,c,e,z.sameBut hs (cne y c e)⟩
  . obtain⟨w',z⟩:=I.cell y c e;exact⟨w',z.sameBut hs (cne y c e)⟩
  . obtain⟨e,n,ne,nf,d⟩:=I.pin p hp;exact⟨(hs.2 p.1 ne).trans e,n,ne,nf,d⟩
 .
  have hfn:X.fn x=true:=by
   rcases hf with z|z
   . exact z
   . rw[z]at hk;cases hk
  obtain⟨c,hc⟩:=I.ok.has x (.inl hk);obtain⟨w',z⟩:=I.cell x c hc;refine wpAny_storeName_cell I.ok.kind hk hc z (λh' hc' hs=>?_);obtain⟨oc,hoc,hocd⟩:=id z;refine h {s with heap:=h' } ⟨I.ok,I.os,I.bare,⟨λb o e n hb hx=>?_,λb o e n hb hx=>?_,I.base.free,λb o e hx=>?_,I.base.tups,I.base.frzs,I.base.tbls⟩,⟨m,hn.sameBut hs (VB (cne x c hc)),λj y v' e1 e2 e3=>?_⟩,λy c' e=>?_,I.free,I.freeC,λp hp=>?_,tracked ⟨oc,hoc,(I.freeC x c hc).resolve_right λz=>by rw[hfn]at z;exact absurd z.1 xp⟩ hs,by simpa using I.len⟩ ⟨c,hs,.inr hc⟩
  . exact(hs.2 b (U7 (so (UR e) (I.ok.cab x c hfn hc)))).trans (I.base.keep b o e n hb hx)
  . obtain⟨sl,e1⟩:=I.base.slot b o e n hb hx;exact⟨sl,(hs.2 b (U7 (so (UR e) (I.ok.cab x c hfn hc)))).trans e1⟩
  . obtain⟨o',e1⟩:=I.base.there b o e hx;exact⟨o',(hs.2 b (U7 (so (UR e) (I.ok.cab x c hfn hc)))).trans e1⟩
  .
   by_cases hj:j=i
   . subst hj;rw[hi]at e1;cases e1;rw[Vo hiσ]at e2;cases e2;exact⟨u,r,.inr ⟨.inl hk,c,hc,hc'⟩⟩
   .
    rw[Vp (VB hj)]at e2;obtain⟨u',r',q⟩:=hl j y v' e1 e2 e3;refine⟨u',r',?_⟩;rcases q with q|⟨k,c',e,z'⟩
    . exact .inl q
    . refine .inr ⟨k,c',e,z'.sameBut hs ?_⟩;rintro rfl;exact hj (AK hN e1 (I.ok.inj _ _ _ e hc ▸ hi))
  .
   by_cases hcc:c'=c
   . subst hcc;exact⟨_,hc'⟩
   . obtain⟨w2,z2⟩:=I.cell y c' e;exact⟨w2,z2.sameBut hs hcc⟩
  . obtain⟨e,n,ne,nf,d⟩:=I.pin p hp;refine⟨(hs.2 p.1 ?_).trans e,n,ne,nf,d⟩;intro q;rw[q,hoc]at e;have q':oc=p.2:=U6 e;exact d w' (by rw[<- q'];exact hocd)
theorem rN{M:Model}{A:Around}{E:Value->Shared->Prop}{i:Nat}{x:Str}{v:V}{u:Value}{Q:Unit->Shared->Prop}(I:P7 X ab σ H s)(hN:X.N.Nodup)(hi:X.N[i]?=some x)(hx:P6 X.env.scope x)(r:cq v u)
  (h:∀s',P7 X ab (σ.set i (some v)) H s'->Q () s') (hf:X.fn x=true∨X.env.scope.names.lookup x=some .local:=by first|exact .inl rfl|exact .inr rfl|assumption):wpAny M A (storeName X.env x u) Q E s :=
 xk I hN hi hx r (λs' I' _=>h s' I') hf
theorem P7.call'{s':Shared}{ch:List Addr}(I:P7 X ab σ H s)(ho:s'.os=s.os)(u:Un (P4 X.stack) ch H H' s.heap s'.heap)(hok:PZ X.prog X.w H' s'.heap)(hg:AllBare s'.gens)
  (hch:∀b∈ch,(b∈X.ex∨X.s₀.heap.objs.size<=b)/\b≠X.env.locals/\(∀x c,X.env.cells.lookup x=some c->c≠b)/\∀p∈X.pn++ab,p.1≠b):P7 X ab σ H' s':=by
 obtain⟨h',g',d',t',o'⟩:=s';have e:o'=s.os:=ho;subst e;exact I.call (g':=g') (t':=t') (d':=d') u hok hg hch
end
noncomputable abbrev XK:=Value->Option Addr->Hp->Prop
noncomputable abbrev St:=List (Option V)
noncomputable abbrev VK:=V->Hp->Prop
abbrev TE:=St->Hp->VK->Prop
noncomputable abbrev TT:=St->Hp->(Bool->Hp->Prop)->Prop
noncomputable abbrev TA:=St->Hp->(List V->Hp->Prop)->Prop
structure K4 where
 nx:St->Hp->Prop
 rt:VK
 bk:St->Hp->Prop:=λ_ _=>False
 ct:St->Hp->Prop:=λ_ _=>False
abbrev TS:=K4->St->Hp->Prop
inductive EP (X:Cx) (ab:List (Addr×Obj)) (σ:St) (Q:VK) (u:Value) (s':Shared):Prop
 |mk (v:V) (H':Hp) (i:P7 X ab σ H' s') (r:cq v u) (q:Q v H')
theorem EP.on{G:Prop}{X:Cx}{ab:List (Addr×Obj)}{σ:St}{Q:VK}{u:Value}{s':Shared}(h:EP X ab σ Q u s')(k:∀v H',P7 X ab σ H' s'->cq v u->Q v H'->G):G:=by cases h with|mk v H' i r q=>exact k v H' i r q
inductive TP (X:Cx) (ab:List (Addr×Obj)) (σ:St) (Q:Bool->Hp->Prop) (b:Bool) (s':Shared):Prop
 |mk (H':Hp) (i:P7 X ab σ H' s') (q:Q b H')
inductive AP (X:Cx) (ab:List (Addr×Obj)) (σ:St) (Q:List V->Hp->Prop) (us:List Value) (s':Shared):Prop
 |mk (vs:List V) (H':Hp) (i:P7 X ab σ H' s') (r:cK vs us) (q:Q vs H')
inductive P8 (X:Cx) (ab:List (Addr×Obj)) (D:St->Hp->Prop) (s':Shared):Prop
 |mk (σ':St) (H':Hp) (i:P7 X ab σ' H' s') (q:D σ' H')
inductive P9 (X:Cx) (ab:List (Addr×Obj)) (D:VK) (u:Value) (s':Shared):Prop
 |mk (v:V) (σ':St) (H':Hp) (i:P7 X ab σ' H' s') (r:cq v u) (q:D v H')
def SP(X:Cx)(ab:List (Addr×Obj))(D:K4)(f:Flow)(s':Shared):Prop :=
 match f with
 |.next=>P8 X ab D.nx s'
 |.brk=>P8 X ab D.bk s'
 |.cont=>P8 X ab D.ct s'
 |.ret u=>P9 X ab D.rt u s'
def PE(X:Cx)(e:Expr)(t:TE):Prop :=
 ∀(ab:List (Addr×Obj))(s:Shared)(σ:St)(H:Hp)(Q:VK),P7 X ab σ H s->t σ H Q->wpAny (model X.prog X.w) X.A (eval e X.env) (EP X ab σ Q) X.xe s
def PT(X:Cx)(e:Expr)(t:TT):Prop :=
 ∀(ab:List (Addr×Obj))(s:Shared)(σ:St)(H:Hp)(Q:Bool->Hp->Prop),P7 X ab σ H s->t σ H Q->wpAny (model X.prog X.w) X.A (isTrue e X.env (eval e X.env)) (TP X ab σ Q) X.xe s
def PA(X:Cx)(es:List Expr)(t:TA):Prop :=
 ∀(pos:Pos)(ab:List (Addr×Obj))(s:Shared)(σ:St)(H:Hp)(Q:List V->Hp->Prop),P7 X ab σ H s->t σ H Q->wpAny (model X.prog X.w) X.A (spliced (backTo pos (starEach es X.env))) (AP X ab σ Q) X.xe s
def PS(X:Cx)(st:Stmt)(t:TS):Prop :=
 ∀(ab:List (Addr×Obj))(s:Shared)(σ:St)(H:Hp)(D:K4),P7 X ab σ H s->t D σ H->wpAny (model X.prog X.w) X.A (exec st X.env) (SP X ab D) X.xe s
def Qa(X:Cx)(st:List Stmt)(t:TS):Prop :=
 ∀(ab:List (Addr×Obj))(s:Shared)(σ:St)(H:Hp)(D:K4),P7 X ab σ H s->t D σ H->wpAny (model X.prog X.w) X.A (execs st X.env) (SP X ab D) X.xe s
theorem Qb{α:Type}{t:Sem α}{Q Q':α->Shared->Prop}{M:Model}{A:Around}{E:Value->Shared->Prop}{s:Shared}(h:wpAny M A t Q E s)(hQ:∀a s,Q a s->Q' a s):wpAny M A t Q' E s:=V7 h hQ λ_ _ x=>x
section
variable{X:Cx}
theorem Qc{a b:Expr}{ta tb:TE}(ha:PE X a ta)(hb:PE X b tb){ab:List (Addr×Obj)}{s:Shared}{σ:St}{H:Hp}{R:V->V->Hp->Prop}(I:P7 X ab σ H s)(h:ta σ H λx H1=>tb σ H1 λy H2=>R x y H2)
  {α:Type} {Q:α->Shared->Prop} {f:Value->Value->Sem α}
  (hf:∀v u s2 x y H2,P7 X ab σ H2 s2->cq x v->cq y u->R x y H2->wpAny (model X.prog X.w) X.A (f v u) Q X.xe s2) :
  wpAny (model X.prog X.w) X.A (eval a X.env) (λv s₁=>wpAny (model X.prog X.w) X.A (eval b X.env) (λu s₂=>wpAny (model X.prog X.w) X.A (f v u) Q X.xe s₂) X.xe s₁) X.xe s:=by
 refine Qb (ha ab s σ H _ I h) λv s1 ⟨x,H1,I1,r1,q1⟩=>?_;refine Qb (hb ab s1 σ H1 _ I1 q1) λu s2 ⟨y,H2,I2,r2,q2⟩=>?_;exact hf v u s2 x y H2 I2 r1 r2 q2
def OL(i:Nat):TE:=λσ H Q=>∃v,σ[i]?=some (some v)/\Q v H
def tC(v:V):TE:=λ_ H Q=>Q v H
theorem ke{i:Nat}{x:Str}{pos:Pos}(hN:X.N[i]?=some x)(hv:P5 X.env.scope x) (hd:(x == ("__debug__" : Str))=false:=by decide) (hcd:(x == ("__classdict__" : Str))=false:=by decide):PE X (.Name x pos) (OL i):=by
 intro ab s σ H Q I h;obtain⟨v,e,h⟩:=h;obtain⟨m,hn,hl⟩:=I.loc;obtain⟨u,r,l⟩:=hl i x v hN e hv;have Qd:EP X ab σ Q u s:=⟨v,H,I,r,h⟩;rcases l with⟨hk,hm⟩|⟨hk,c,hc,hcell⟩
 . exact wpAny_Name (wpAny_loadName_local I.ok.kind hk hn hm Qd) hd
 .
  rcases hk with hk|hk
  . exact wpAny_Name (wpAny_loadName_cell I.ok.kind hk hc hcell Qd) hd
  . exact wpAny_Name (wpAny_loadName_free I.ok.kind hk hc hcell Qd hcd) hd
theorem Lf {i j pos}:PE X (.Constant (.int i) j pos) (tC (.int i)):=λ_ _ _ H _ I h=>wpAny_Constant_int ⟨.int i,H,I.tok _,⟨_,rfl⟩,h⟩
theorem NF {b j pos}:PE X (.Constant (.bool b) j pos) (tC (.bl b)):=λ_ _ _ H _ I h=>Constant_bool ⟨.bl b,H,I,rfl,h⟩
theorem Lg {j pos}:PE X (.Constant .none j pos) (tC .non):=λ_ _ _ H _ I h=>Constant_none ⟨.non,H,I,rfl,h⟩
theorem HF {x j pos}:PE X (.Constant (.str x) j pos) (tC (.str x)):=λ_ _ _ H _ I h=>Calls.Constant_str ⟨.str x,H,I.tok _,⟨_,rfl⟩,h⟩
def Gl(X:Cx)(x:Str):Prop:=X.env.kindOf x=some .globalImplicit
theorem zb{E:Value->Shared->Prop}{ab:List (Addr×Obj)}{s:Shared}{σ:St}{H:Hp}{x:Str}{u:Value}{pos:Pos}{Q:Value->Shared->Prop}(I:P7 X ab σ H s)(hg:Gl X x)(hm:X.mg x=some u)(h:Q u s)
  (hd:(x == ("__debug__" : Str))=false:=by decide):wpAny (model X.prog X.w) X.A (eval (.Name x pos) X.env) Q E s :=
 Calls.Name_function_global I.ok.kind hg (Calls.loadGlobal_global (by rw[I.ok.glob];exact I.mod.glob.keeps I.bk) hm h) hd
theorem oI{E:Value->Shared->Prop}{ab:List (Addr×Obj)}{s:Shared}{σ:St}{H:Hp}{x:Str}{u:Value}{pos:Pos}{Q:Value->Shared->Prop}(I:P7 X ab σ H s)(hg:Gl X x)(hm:X.mg x=none)(hv:bootBuiltins x=some u)(h:Q u s)
  (hn:x≠"__name__":=by decide) (hd:(x == ("__debug__" : Str))=false:=by decide):wpAny (model X.prog X.w) X.A (eval (.Name x pos) X.env) Q E s:=by
 obtain⟨mb,h1,h2⟩:=I.mod.blt;exact Calls.Name_function_global I.ok.kind hg (Calls.loadGlobal_builtin (by rw[I.ok.glob];exact I.mod.glob.keeps I.bk) hm (by rw[I.ok.blt];exact h1.keeps I.bk) ((h2 x hn).trans hv) h) hd
theorem IP{x:Str}{v:V}{u:Value}{pos:Pos}(hg:Gl X x)(hm:X.mg x=some u)(r:cq v u) (hd:(x == ("__debug__" : Str))=false:=by decide):PE X (.Name x pos) (tC v) :=
 λ_ _ _ H _ I h=>zb I hg hm ⟨v,H,I,r,h⟩ hd
theorem IQ{x:Str}{v:V}{u:Value}{pos:Pos}(hg:Gl X x)(hm:X.mg x=none)(hv:bootBuiltins x=some u)(r:cq v u) (hn:x≠"__name__":=by decide) (hd:(x == ("__debug__" : Str))=false:=by decide):PE X (.Name x pos) (tC v) :=
 λ_ _ _ H _ I h=>oI I hg hm hv ⟨v,H,I,r,h⟩ hn hd
variable{a b:Expr}{ta tb:TE}{pos:Pos}
noncomputable def tB(t:TE):TT:=λσ H Q=>t σ H λx H1=>∃c,x=.bl c/\Q c H1
end
def Qe(K:PySem.W.Frag)(H:Hp)(a:Addr)(xs:List V):Prop :=
 Rd H a (.lst xs) ∨
  ∃(o:Obj)(its:Array Value)(n:Nat),K.lookup a=some o/\o.cls=.type "list"/\o.dict=none/\o.data=.seq its n/\its.size<=sizeLine/\cK xs its.toList
def Qf(K:PySem.W.Frag)(H:Hp)(a:Addr)(xs:List V):Prop :=
 Rd H a (.tup xs) ∨
  ∃(o:Obj)(its:Array Value)(n:Nat),K.lookup a=some o/\o.cls=.type "tuple"/\o.data=.seq its n/\its.size<=sizeLine/\cK xs its.toList
noncomputable def Pa:Value->Option V
 |.none=>some .non
 |.bool b=>some (.bl b)
 |.int i _=>some (.int i)
 |.str x _=>some (.str x)
 |.bytes b _=>some (.byt b)
 |.float b _=>some (.flt b)
 |.ref a=>some (.ref a)
 |.type n=>some (.ty n)
 |_=>none
theorem cq.abs{x:V}{u:Value}(r:cq x u):Pa u=some x:=by
 cases x with
 |non=>cases r;rfl
 |bl _=>cases r;rfl
 |int _=>obtain⟨t,rfl⟩:=r;rfl
 |str _=>obtain⟨t,rfl⟩:=r;rfl
 |byt _=>obtain⟨t,rfl⟩:=r;rfl
 |flt _=>obtain⟨t,rfl⟩:=r;rfl
 |ref _=>cases r;rfl
 |ty _=>cases r;rfl
theorem cq.inj{x y:V}{u:Value}(r:cq x u)(q:cq y u):x=y:=U6 (r.abs.symm.trans q.abs)
theorem cK.inj:∀{xs ys:List V}{us:List Value},cK xs us->cK ys us->xs=ys
 |_,_,_,.nil,.nil=>rfl
 |_,_,_,.cons r t,.cons r' t'=>by rw[r.inj r',cK.inj t t']
section
variable{X:Cx}{ab:List (Addr×Obj)}{σ:St}{H:Hp}{s:Shared}{a:Addr}{xs ys:List V}
theorem Qe.of{K:PySem.W.Frag}(h:H a=some (.lst xs)):Qe K H a xs:=.inl (.inl h)
theorem Qf.of{K:PySem.W.Frag}(h:H a=some (.tup xs)):Qf K H a xs:=.inl (.inl h)
theorem P7.list(I:P7 X ab σ H s)(h:Qe X.K H a xs):∃its:List Value,cK xs its/\PlainL s.heap a its.toArray/\xs.length<=sizeLine:=by
 rcases h with h|⟨o,its,n,hk,hc,hd,hs,hz,r⟩
 . obtain⟨z,its,n,r,e⟩:=h.ok I.hok;exact⟨its,r,⟨_,n,e,rfl,rfl,rfl⟩,z⟩
 . refine⟨its.toList,r,⟨o,n,I.kIn a o hk,hc,hd,by simpa using hs⟩,?_⟩;have e:=r.length;simp only[Array.length_toList]at e;omega
theorem P7.tuple(I:P7 X ab σ H s)(h:Qf X.K H a xs):∃its:List Value,cK xs its/\IsTup s.heap a its.toArray/\xs.length<=sizeLine:=by
 rcases h with h|⟨o,its,n,hk,hc,hs,hz,r⟩
 . obtain⟨z,its,r,p⟩:=h.ok I.hok;exact⟨its,r,p,z⟩
 . refine⟨its.toList,r,⟨o,I.kIn a o hk,hc,n,by simpa using hs⟩,?_⟩;have e:=r.length;simp only[Array.length_toList]at e;omega
theorem P7.list_inj(I:P7 X ab σ H s)(h:Qe X.K H a xs)(h':Qe X.K H a ys):xs=ys:=by
 obtain⟨its,r,⟨o,n,e,_,_,d⟩,_⟩:=I.list h;obtain⟨its',r',⟨o',n',e',_,_,d'⟩,_⟩:=I.list h';rw[e]at e';cases e';rw[d]at d';injection d' with d1 _;have:its=its':=by simpa using WG Array.toList d1
 subst this;exact r.inj r'
theorem P7.tuple_inj(I:P7 X ab σ H s)(h:Qf X.K H a xs)(h':Qf X.K H a ys):xs=ys:=by
 obtain⟨its,r,⟨o,e,_,n,d⟩,_⟩:=I.tuple h;obtain⟨its',r',⟨o',e',_,n',d'⟩,_⟩:=I.tuple h';rw[e]at e';cases e';rw[d]at d';injection d' with d1 _;have:its=its':=by simpa using WG Array.toList d1
 subst this;exact r.inj r'
end
noncomputable abbrev Cx.wish(X:Cx)(E:Value->Shared->Prop):Cx:={X with xe:=E}
noncomputable abbrev Cx.nox(X:Cx):Cx:=X.wish λ_ _=>False
theorem Cx.Ok.wish{X:Cx}(ok:X.Ok)(E:Value->Shared->Prop):(X.wish E).Ok :=
 ⟨ok.mod,ok.kind,ok.glob,ok.blt,ok.above,ok.inj,ok.has,ok.cab,ok.hd,ok.frames,ok.stk,ok.exf,ok.bs,ok.bsz,ok.noex,ok.exfs,ok.funs,ok.frf,ok.tbs⟩
theorem Cx.Ok.unwish{X:Cx}{E:Value->Shared->Prop}(ok:(X.wish E).Ok):X.Ok :=
 ⟨ok.mod,ok.kind,ok.glob,ok.blt,ok.above,ok.inj,ok.has,ok.cab,ok.hd,ok.frames,ok.stk,ok.exf,ok.bs,ok.bsz,ok.noex,ok.exfs,ok.funs,ok.frf,ok.tbs⟩
section
variable{X:Cx}{ab:List (Addr×Obj)}{σ:St}{H:Hp}{s:Shared}{E:Value->Shared->Prop}
theorem P7.wish(I:P7 X ab σ H s)(E:Value->Shared->Prop):P7 (X.wish E) ab σ H s:=⟨I.ok.wish E,I.os,I.bare,I.base,I.loc,I.cell,I.free,I.freeC,I.pin,I.hok,I.len⟩
theorem P7.unwish(I:P7 (X.wish E) ab σ H s):P7 X ab σ H s:=⟨I.ok.unwish,I.os,I.bare,I.base,I.loc,I.cell,I.free,I.freeC,I.pin,I.hok,I.len⟩
theorem SP.unwish{D:K4}{f:Flow}{s':Shared}(h:SP (X.wish E) ab D f s'):SP X ab D f s':=by
 cases f with
 |next=>obtain⟨σ',H',I,q⟩:=h;exact⟨σ',H',I.unwish,q⟩
 |brk=>obtain⟨σ',H',I,q⟩:=h;exact⟨σ',H',I.unwish,q⟩
 |cont=>obtain⟨σ',H',I,q⟩:=h;exact⟨σ',H',I.unwish,q⟩
 |ret u=>obtain⟨v,σ',H',I,r,q⟩:=h;exact⟨v,σ',H',I.unwish,r,q⟩
theorem Qa.nox{st:List Stmt}{t:TS}(h:Qa X.nox st t):Qa X st t:=λab s σ H D I hw =>
 V7 (h ab s σ H D (I.wish _) hw) (λ_ _ q=>q.unwish) λ_ _ z=>False.elim z
end
section
variable{X:Cx}
theorem P7.quiet{ab:List (Addr×Obj)}{σ:St}{H:Hp}{s:Shared}(I:P7 X ab σ H s):interactive X.env=false:=by simp[interactive,I.ok.kind]
end
noncomputable abbrev TG:=V->St->Hp->(St->Hp->Prop)->Prop
noncomputable abbrev Qg:=List V->St->Hp->(St->Hp->Prop)->Prop
def PG(X:Cx)(target:Expr)(t:TG):Prop :=
 ∀(ab:List (Addr×Obj))(s:Shared)(σ:St)(H:Hp)(v:V)(u:Value)(Q:St->Hp->Prop),P7 X ab σ H s->cq v u->t v σ H Q ->
  wpAny (model X.prog X.w) X.A (assign target X.env u) (λ_ s'=>∃σ' H',P7 X ab σ' H' s'/\Q σ' H') X.xe s
def Qh(X:Cx)(ts:List Expr)(t:Qg):Prop :=
 ∀(ab:List (Addr×Obj))(s:Shared)(σ:St)(H:Hp)(vs:List V)(us:List Value)(Q:St->Hp->Prop),P7 X ab σ H s->cK vs us->t vs σ H Q ->
  wpAny (model X.prog X.w) X.A (assignInOrder ((assignEach ts X.env).map (·.2)) us) (λ_ s'=>∃σ' H',P7 X ab σ' H' s'/\Q σ' H') X.xe s
noncomputable abbrev NG:=V->V->V->Hp->(Hp->Prop)->Prop
def OM(X:Cx)(t:NG):Prop :=
 ∀(ab:List (Addr×Obj))(s:Shared)(σ:St)(H:Hp)(o i v:V)(ov iv u:Value)(Q:Hp->Prop),P7 X ab σ H s->cq o ov->cq i iv->cq v u->t o i v H Q ->
  wpAny (model X.prog X.w) X.A (setItem ov iv u) (λ_ s'=>∃H',P7 X ab σ H' s'/\Q H') X.xe s
section
variable{X:Cx}{pos:Pos}
noncomputable def NH(i:Nat):TG:=λv σ H Q=>Q (σ.set i (some v)) H
theorem vF{i:Nat}{x:Str}(hN:X.N.Nodup)(hi:X.N[i]?=some x)(hx:P6 X.env.scope x)(hf:X.fn x=true∨X.env.scope.names.lookup x=some .local:=by first|exact .inl rfl|exact .inr rfl|assumption):PG X (.Name x pos) (NH i):=by intro ab s σ H v u Q I r h;exact wpAny_assign_Name (rN I hN hi hx r (λs' I'=>⟨_,H,I',h⟩) hf)
noncomputable def Pb:Qg:=λvs σ H Q=>vs=[]/\Q σ H
noncomputable def NI(t:TG)(u:Qg):Qg:=λvs σ H Q=>∃v r,vs=v::r/\t v σ H λσ' H'=>u r σ' H' Q
theorem CT:Qh X [] Pb:=by intro ab s σ H vs us Q I r h;obtain⟨e,h⟩:=h;subst e;cases r;exact assignInOrder_nil ⟨σ,H,I,h⟩
theorem AL{e:Expr}{es:List Expr}{t:TG}{u:Qg}(h1:PG X e t)(h2:Qh X es u)
  (hs:(assignEach (e::es) X.env).map (·.2)=assign e X.env::(assignEach es X.env).map (·.2):=by rfl):Qh X (e::es) (NI t u):=by
 intro ab s σ H vs us Q I r h;obtain⟨v,vr,e1,h⟩:=h;subst e1
 cases r with
 | cons r rr =>
  rw[hs];refine assignInOrder_cons (Qb (h1 ab s σ H _ _ _ I r h) λ_ s1 ⟨σ1,H1,I1,q1⟩=>?_);exact h2 ab s1 σ1 H1 _ _ Q I1 rr q1
noncomputable def Pc(K:PySem.W.Frag)(n:Nat)(t:Qg):TG:=λv σ H Q=>∃a xs,v=.ref a/\Qf K H a xs/\xs.length=n/\t xs σ H Q
theorem HG{es:List Expr}{k:Nat}{t:Qg}{n:Nat}(hc:X.calm=true)(h:Qh X es t)
  (hn:(assignEach es X.env).length=n:=by rfl) (hst:(assignEach es X.env).findIdx? (·.1)=none:=by rfl):PG X (.Tuple es k pos) (Pc X.K n t):=by
 intro ab s σ H v u Q I r hw;obtain⟨a,xs,e1,hq,hl,hw⟩:=hw;subst e1;cases r;obtain⟨its,rv,ht,hz⟩:=I.tuple hq;refine assign_Tuple_tuple (I.ok.hd hc) ht (by simp[hn,<- hl,rv.length]) hst λh' hx=>?_;have I1:P7 X ab σ H {s with heap:=h' }:=I.kept (t':=s.toks) λb o e=>hx b o (U7 (UR e)) e;exact h ab _ σ H xs _ Q I1 (by simpa using rv) hw
noncomputable def Pd(to ti:TE)(t:NG):TG:=λv σ H Q=>to σ H λo H1=>ti σ H1 λi H2=>t o i v H2 λH3=>Q σ H3
theorem Lh{o i:Expr}{to ti:TE}{t:NG}(ho:PE X o to)(hi:PE X i ti)(hs:OM X t)
  (ha:∀v,assign (.Subscript o i pos) X.env v=(do
   let ov <- holding [v] (eval o X.env)
   let iv <- holding [v,ov] (eval i X.env)
   standAt pos
   holding [v,ov,iv] (setItem ov iv v)
   release [v,ov,iv] []):=by intro _;rfl):PG X (.Subscript o i pos) (Pd to ti t):=by
 intro ab s σ H v u Q I r h;rw[ha];refine UL (V0 (Qb (ho ab s σ H _ I h) λov s1 ⟨x,H1,I1,r1,q1⟩=>?_));refine UL (V0 (Qb (hi ab s1 σ H1 _ I1 q1) λiv s2 ⟨y,H2,I2,r2,q2⟩=>?_));refine UL (wpAny_standAt (UL (V0 (Qb (hs ab s2 σ H2 x y v ov iv u _ I2 r1 r2 r q2) λ_ s3 ⟨H3,I3,q3⟩=>?_))));exact wpAny_release ⟨σ,H3,I3,q3⟩
def Pe(te:TE)(g:TG):TS:=λD σ H=>te σ H λx H1=>g x σ H1 D.nx
theorem Li{tg e:Expr}{te:TE}{g:TG}(he:PE X e te)(hg:PG X tg g)(hs:swapsWithSole [tg] e pos.line X.env=pure false:=by rfl)(hw:swappedStores [tg] e X.env=pure none:=by rfl)
  (h1:(assignEach [tg] X.env).map (·.2)=[assign tg X.env]:=by rfl):PS X (.Assign [tg] e pos) (Pe te g):=by
 intro ab s σ H D I h;refine wpAny_Assign_stores (Qb (he ab s σ H _ I h) λv s1 ⟨x,H1,I1,r1,q1⟩=>?_) hs hw;rw[h1];exact Qb (hg ab s1 σ H1 x v _ I1 r1 q1) λ_ s2 ⟨_,_,a,b⟩=>⟨_,_,a,b⟩
def Pf(i j:Nat)(ta:TA):TS:=λD σ H=>ta σ H λvs H1=>∃v w,vs=[v,w]/\D.nx ((σ.set i (some v)).set j (some w)) H1
theorem Lj{i j:Nat}{x y:Str}{a b:Expr}{ta:TA}{px py pt:Pos} {kt k2 pt2} (hc:X.calm=true) (hN:X.N.Nodup) (hi:X.N[i]?=some x) (hj:X.N[j]?=some y) (hij:i≠j)
  (hx:X.env.scope.names.lookup x=some .local) (hy:X.env.scope.names.lookup y=some .local) (ha:PA X [a,b] ta)
  (hw:swappedStores [.Tuple [.Name x px,.Name y py] kt pt] (.Tuple [a,b] k2 pt2) X.env=pure (some [x,y]))
  (hs:swapsWithSole [.Tuple [.Name x px,.Name y py] kt pt] (.Tuple [a,b] k2 pt2) pos.line X.env=pure false:=by rfl) :
  PS X (.Assign [.Tuple [.Name x px,.Name y py] kt pt] (.Tuple [a,b] k2 pt2) pos) (Pf i j ta):=by
 intro ab s σ H D I h;rw[exec_Assign_arm];refine UL (wpAny_standAt ?_);rw[hs];refine UL (U0 ?_);rw[if_neg (by decide)];refine UL (Tuple_ (Qb (ha _ ab s σ H _ I h) λus s1 ⟨vs,H1,I1,r1,q1⟩=>?_));obtain⟨v,w,e1,q1⟩:=q1;subst e1
 obtain⟨u1,u2,rfl,rv,rw'⟩:∃u1 u2,us=[u1,u2]/\cq v u1/\cq w u2:=by
  cases r1 with
  | cons p q =>
   cases q with
   | cons p' q' =>
    cases q';exact⟨_,_,rfl,p,p'⟩
 refine WA ?_ (by show 2<=sizeLine;decide);have I2:P7 X ab σ H1 {s1 with heap:=s1.heap.push {cls:=.type "tuple",data:=.seq [u1,u2].toArray} }:=I1.kept (t':=s1.toks) λb o e=>tu _ e;rw[hw];refine UL (U0 ?_)
 show wpAny (model X.prog X.w) X.A (do rule "assign.swapped-stores"; let items <- unpackItems (.ref s1.heap.objs.size) 2 none; assignInOrder [λv=>bindName X.env y v,λv=>bindName X.env x v] items.reverse; pure Flow.next) _ _ _
 refine UL (wpAny_rule (UL (unpackItems_tuple (items:=#[u1,u2]) (I.ok.hd hc) (IsTup.new s1.heap _) λh' hx'=>?_)));have I3:=I2.kept (h':=h') (t':=s1.toks) λb o e=>hx' b o (U7 (UR e)) e
 show wpAny _ _ (assignInOrder [λv=>bindName X.env y v,λv=>bindName X.env x v] [u2,u1] >>= λ_=>pure Flow.next) _ _ _
 refine UL (assignInOrder_cons (wpAny_bindName (rN I3 hN hj (.inl hy) rw' (λs2 I4=>?_) (.inr hy))));refine assignInOrder_cons (wpAny_bindName (rN I4 hN hi (.inl hx) rv (λs3 I5=>assignInOrder_nil (U0 ?_)) (.inr hx)));rw[List.set_comm _ _ (VB hij)]at I5;exact⟨_,H1,I5,q1⟩
end
section
variable{X:Cx}{pos:Pos}
def Lk(c:TT)(tb:TS):TS:=λD σ H=>∃W:Nat->St->Hp->Prop,(∃m,W m σ H)/\∀m σ H,W m σ H ->
 c σ H λb H1=>if b=true then ∃N:St->Hp->Prop,(∀σ' H',N σ' H'->∃m',m' < m/\W m' σ' H')/\tb {D with nx:=N,ct:=N,bk:=D.nx} σ H1 else D.nx σ H1
theorem Fw{c:Expr}{body:List Stmt}{tc:TT}{tb:TS}(hp:PassesOwn (model X.prog X.w) X.A X.env X.xe)(hc:PT X c tc)(hb:Qa X body tb):PS X (.While c body [] pos) (Lk tc tb):=by
 intro ab s σ H D I h;obtain⟨W,⟨m0,w0⟩,turn⟩:=h;refine wpAny_While (codeAny_whileLoop (λn s'=>∃σ' H',P7 X ab σ' H' s'/\W n σ' H') ?_ m0 ⟨σ,H,I,w0⟩);rintro n s1 ⟨σ1,H1,I1,w1⟩;refine Wy hp (Qb (hc ab s1 σ1 H1 _ I1 (turn n σ1 H1 w1)) λb s2 ⟨H2,I2,q2⟩=>?_)
 cases b with
 | true =>
  obtain⟨N,hN,q2⟩:=q2;rw[if_pos rfl];refine Wy hp (Qb (hb ab s2 σ1 H2 _ I2 q2) λf s3 q3=>?_)
  cases f with
  | next =>
   obtain⟨σ3,H3,I3,n3⟩:=q3;obtain⟨m',hm,w3⟩:=hN σ3 H3 n3;exact⟨m',hm,σ3,H3,I3,w3⟩
  | cont =>
   obtain⟨σ3,H3,I3,n3⟩:=q3;obtain⟨m',hm,w3⟩:=hN σ3 H3 n3;exact⟨m',hm,σ3,H3,I3,w3⟩
  |brk=>exact q3
  |ret v=>exact q3
 | false =>
  rw[if_neg U4];exact wpAny_execs_nil ⟨σ1,H2,I2,q2⟩
end
structure It where
 go:Nat->Hp->Prop
 yld:Nat->Hp->V->Hp->Prop
 stop:Nat->Hp->Prop
def CU(X:Cx)(ab:List (Addr×Obj))(H:Hp)(b:Addr):Prop :=
 H b=none/\b≠X.env.locals/\b∉X.fs/\(b∈X.ex∨X.s₀.heap.objs.size<=b)/\(∀x c,X.env.cells.lookup x=some c->c≠b)/\∀p∈X.pn++ab,p.1≠b
theorem P7.fpOk{X:Cx}{ab:List (Addr×Obj)}{σ:St}{H H':Hp}{s:Shared}{b:Addr}(I:P7 X ab σ H s)(hb:s.heap.objs.size<=b)(hn:H' b=none):CU X ab H' b:=by
 refine⟨hn,Nat.ne_of_gt (so I.lt hb),I.nofs hb,.inr (UT I.sz hb),λx c e z=>?_,λp hp z=>?_⟩
 . obtain⟨v,q⟩:=I.cell x c e;exact absurd (so q.lt (by rw[z];exact hb)) (V5 _)
 . exact absurd (so (UR (I.pin p hp).1) (by rw[z];exact hb)) (V5 _)
structure HH (P:Program) (w:World) (K:PySem.W.Frag) (tg:Expr) (J:It) (fp:List Addr) (it:Addr) (tn:Nat->Heap->Prop):Prop where
 mem:it∈fp
 obj:∀i h,tn i h->∀b∈fp,∃o,h.get? b=some o/\∀v,o.data≠.cell v
 keep:∀i h h',tn i h->(∀b∈fp,∀o,h.get? b=some o->h'.get? b=some o)->tn i h'
 item:∀(X:Cx),X.prog=P->X.w=w->X.K=K->X.calm=true->∀(i:Nat)(ab:List (Addr×Obj))(s:Shared)(σ:St)(H:Hp)(E:Value->Shared->Prop),P7 X ab σ H s->(∀b∈fp,CU X ab H b)->tn i s.heap->J.go i H ->
  wpAny (model P w) X.A (pyNext (.ref it)) (λr s1=>∃u,r=some u /\
   wpAny (model P w) X.A (letOwnedTupleGo tg (.ref it) u) (λ_ s2=>∃x H',P7 X ab σ H' s2/\cq x u/\J.yld i H x H'/\tn (i+1) s2.heap/\∀b∈fp,H' b=none) E s1) E s
 done:∀(X:Cx),X.prog=P->X.w=w->X.K=K->X.calm=true->∀(i:Nat)(ab:List (Addr×Obj))(s:Shared)(σ:St)(H:Hp)(E:Value->Shared->Prop),P7 X ab σ H s->(∀b∈fp,CU X ab H b)->tn i s.heap->J.stop i H ->
  wpAny (model P w) X.A (pyNext (.ref it)) (λr s1=>r=none/\P7 X ab σ H s1) E s
 self:∀(A:Around)(i:Nat)(s:Shared)(Q:Value->Shared->Prop)(E:Value->Shared->Prop),tn i s.heap->Q (.ref it) s->wpAny (model P w) A (pyIter (.ref it)) Q E s
noncomputable abbrev TI:=St->Hp->(It->Hp->Prop)->Prop
inductive Qi (X:Cx) (ab:List (Addr×Obj)) (σ:St) (tg:Expr) (R:It->Hp->Prop) (itv:Value) (s2:Shared):Prop
 |mk (it:Addr) (fp:List Addr) (tn:Nat->Heap->Prop) (J:It) (H':Hp) (hv:itv=.ref it) (i:P7 X ab σ H' s2) (t:HH X.prog X.w X.K tg J fp it tn) (h0:tn 0 s2.heap) (hf:∀b∈fp,CU X ab H' b) (q:R J H')
def PI(X:Cx)(tg iter:Expr)(wi:TI):Prop :=
 ∀(ab:List (Addr×Obj))(s:Shared)(σ:St)(H:Hp)(R:It->Hp->Prop),P7 X ab σ H s->wi σ H R ->
  wpAny (model X.prog X.w) X.A (eval iter X.env) (λv s1=>wpAny (model X.prog X.w) X.A (pyIter v) (Qi X ab σ tg R) X.xe s1) X.xe s
theorem Fx {M : Model} {A : Around} {E : Value → Shared → Prop} {s : Shared} {tg : Expr} {it : Addr} {u : Value} {o : Obj} {n : String} {vs : Array Value} {Q : Unit → Shared → Prop} (ho : s.heap.get? it = some o) (hc : o.cls = .type n) (hd : o.data = .fields vs)
    (hn : ["enumerate", "zip", "dict_itemiterator", "dict_reverseitemiterator", "odict_iterator", "itertools.zip_longest", "itertools.pairwise"].contains n = false) (hQ : Q () s) : wpAny M A (letOwnedTupleGo tg (.ref it) u) Q E s := by
  unfold letOwnedTupleGo
  cases tg<;>first
    |exact U0 hQ
    | (cases u<;>first
        |exact U0 hQ
        | (refine UL (wpAny_load ho ?_)
           rw[hc, hd]
           show wpAny M A (if(["enumerate", "zip", "dict_itemiterator", "dict_reverseitemiterator", "odict_iterator", "itertools.zip_longest", "itertools.pairwise"].contains n && vs[0]? == some (rawInt _)) = true then _ else _) Q E s
           rw[if_neg (by intro h;rw[hn, Wg]at h;cases h)]
           exact U0 hQ))
noncomputable def Qj(K:PySem.W.Frag)(a:Addr):It :=
 ⟨λi H=>∃xs x,Qe K H a xs/\xs[i]?=some x,λi H x H'=>H'=H/\∀xs,Qe K H a xs->xs[i]?=some x,λi H=>∃xs,Qe K H a xs/\xs.length<=i⟩
noncomputable def Qk(K:PySem.W.Frag)(a:Addr):It :=
 ⟨λi H=>∃xs x,Qf K H a xs/\xs[i]?=some x,λi H x H'=>H'=H/\∀xs,Qf K H a xs->xs[i]?=some x,λi H=>∃xs,Qf K H a xs/\xs.length<=i⟩
noncomputable def Ql(lo:Int)(n:Nat):It:=⟨λi _=>i<n,λi H x H'=>H'=H/\x=.int (lo+i),λi _=>n<=i⟩
theorem CV{P:Program}{w:World}{K:PySem.W.Frag}{tg:Expr}(a it:Addr):HH P w K tg (Qj K a) [it] it (λi h=>h.IsListIter it a i) where
 mem:=by simp
 obj:=λi h st b hb=>by
  have e:b=it:=by simpa using hb
  subst e;obtain⟨o,e,c,d⟩:=st;exact⟨o,e,λv z=>by rw[d]at z;cases z⟩
 keep:=λi h h' st k=>st.at λo e=>k it x_ o e
 item:=by intro X hP hw hK hc i ab s σ H E I hf st hg;subst hP hw hK;obtain⟨xs,x,hq,hx⟩:=hg;obtain⟨its,rv,p,hz⟩:=I.list hq;obtain⟨u,hu,ru⟩:=rv.get hx;obtain⟨f0,f1,f2,f3,f4,f5⟩:=hf it x_;refine wpAny_pyNext_list_item st p.isList (x:=u) (by simpa using hu) λh' st' sb=>?_;have I1:P7 X ab σ H {s with heap:=h' }:=I.turned (t':=s.toks) (λb o hb e=>(sb.2 b hb).trans e) f0 f1 f3 f4 f5;obtain⟨o,e,c,d⟩:=id st';exact⟨u,rfl,Fx (s:={s with heap:=h' }) e c d xp ⟨x,H,I1,ru,⟨rfl,λys hy=>by rw[I.list_inj hy hq];exact hx⟩,st',λb hb=>(hf b hb).1⟩⟩
 done:=by intro X hP hw hK hc i ab s σ H E I hf st hg;subst hP hw hK;obtain⟨xs,hq,hx⟩:=hg;obtain⟨its,rv,p,hz⟩:=I.list hq;obtain⟨f0,f1,f2,f3,f4,f5⟩:=hf it x_;have hl:=rv.length;exact wpAny_pyNext_list_end (I.ok.hd hc) st p.isList (by simp;omega) λh' eb=>⟨rfl,I.turned (t':=s.toks) (λb o hb e=>eb b o hb e) f0 f1 f3 f4 f5⟩
 self:=λ_ _ _ _ _ st h=>wpAny_pyIter_listiter st h
theorem BR{P:Program}{w:World}{K:PySem.W.Frag}{tg:Expr}(a it:Addr):HH P w K tg (Qk K a) [it] it (λi h=>h.IsTupleIter it a i) where
 mem:=by simp
 obj:=λi h st b hb=>by
  have e:b=it:=by simpa using hb
  subst e;obtain⟨o,e,c,d⟩:=st;exact⟨o,e,λv z=>by rw[d]at z;cases z⟩
 keep:=λi h h' st k=>st.at λo e=>k it x_ o e
 item:=by intro X hP hw hK hc i ab s σ H E I hf st hg;subst hP hw hK;obtain⟨xs,x,hq,hx⟩:=hg;obtain⟨its,rv,p,hz⟩:=I.tuple hq;obtain⟨u,hu,ru⟩:=rv.get hx;obtain⟨f0,f1,f2,f3,f4,f5⟩:=hf it x_;refine wpAny_pyNext_tuple_item st (show s.heap.IsTuple a its.toArray from p) (x:=u) (by simpa using hu) λh' st' sb=>?_;have I1:P7 X ab σ H {s with heap:=h' }:=I.turned (t':=s.toks) (λb o hb e=>(sb.2 b hb).trans e) f0 f1 f3 f4 f5;obtain⟨o,e,c,d⟩:=id st';exact⟨u,rfl,Fx (s:={s with heap:=h' }) e c d xp ⟨x,H,I1,ru,⟨rfl,λys hy=>by rw[I.tuple_inj hy hq];exact hx⟩,st',λb hb=>(hf b hb).1⟩⟩
 done:=by intro X hP hw hK hc i ab s σ H E I hf st hg;subst hP hw hK;obtain⟨xs,hq,hx⟩:=hg;obtain⟨its,rv,p,hz⟩:=I.tuple hq;obtain⟨f0,f1,f2,f3,f4,f5⟩:=hf it x_;have hl:=rv.length;exact wpAny_pyNext_tuple_end (I.ok.hd hc) st (show s.heap.IsTuple a its.toArray from p) (by simp;omega) λh' eb=>⟨rfl,I.turned (t':=s.toks) (λb o hb e=>eb b o hb e) f0 f1 f3 f4 f5⟩
 self:=λ_ _ _ _ _ st h=>wpAny_pyIter_tupleiter st h
theorem BS{P:Program}{w:World}{K:PySem.W.Frag}{tg:Expr}(it:Addr)(lo:Int)(n:Nat):HH P w K tg (Ql lo n) [it] it (λi h=>IsRangeIter h it (lo+(i:Nat)*1) ((n:Int)-(i:Nat)) 1) where
 mem:=by simp
 obj:=λi h st b hb=>by
  have e:b=it:=by simpa using hb
  subst e
  exact⟨_,st,λv z=>by
   have z':Data.fields _=Data.cell v:=z
   cases z'⟩
 keep:=λi h h' st k=>k it x_ _ st
 item:=by intro X hP hw hK hc i ab s σ H E I hf st hg;subst hP hw hK;obtain⟨f0,f1,f2,f3,f4,f5⟩:=hf it x_;have W:=Walks.range (prog:=X.prog) (w:=X.w) (I.ok.hd hc) it lo 1 n;refine W.item i s _ _ hg st λv h' tk hv st' kk=>?_;obtain⟨t,rfl⟩:=hv;have I1:P7 X ab σ H {s with heap:=h',toks:=tk}:=I.turned (λb o hb e=>kk b o (by simpa using hb) e) f0 f1 f3 f4 f5;refine⟨_,rfl,Fx (s:={s with heap:=h',toks:=tk}) (n:="range_iterator") st' rfl rfl xp ⟨.int (lo+i),H,I1,⟨t,?_⟩,⟨rfl,rfl⟩,st',λb hb=>(hf b hb).1⟩⟩;rw[Int.mul_one]
 done:=by intro X hP hw hK hc i ab s σ H E I hf st hg;subst hP hw hK;obtain⟨f0,f1,f2,f3,f4,f5⟩:=hf it x_;exact wpAny_pyNext_range_end (I.ok.hd hc) st (by have:n<=i:=hg;omega) λh' eb=>⟨rfl,I.turned (t':=s.toks) (λb o hb e=>eb b o hb e) f0 f1 f3 f4 f5⟩
 self:=λ_ _ _ _ _ st h=>wpAny_pyIter_rangeiter st h
section
variable{X:Cx}{tg:Expr}
theorem Fy{ab:List (Addr×Obj)}{σ:St}{H:Hp}{s:Shared}{R:It->Hp->Prop}{E:Value->Shared->Prop}{lo hi:Int}{t u v:Tok}{tk:Nat}(I:P7 X ab σ H s)(h1 : -(2^62)<=lo)(h2:lo<2^62)(h3 : -(2^62)<=hi)(h4:hi<2^62)
  (q:R (Ql lo (hi-lo).toNat) H):wpAny (model X.prog X.w) X.A (pyIter (.ref s.heap.objs.size)) (Qi X ab σ tg R) E {s with heap:=s.heap.push {cls:=.type "range",data:=.fields #[.int lo t,.int hi u,.int 1 v] },toks:=tk}:=by
 refine wpAny_pyIter_range (IsRange.new ..) (small_one h1 h2 h3 h4) ?_;have I1:P7 X ab σ H {s with heap:=s.heap.push {cls:=.type "range",data:=.fields #[.int lo t,.int hi u,.int 1 v] },toks:=tk}:=I.kept λb o e=>tu _ e
 refine⟨(s.heap.push {cls:=.type "range",data:=.fields #[.int lo t,.int hi u,.int 1 v] }).objs.size,[(s.heap.push {cls:=.type "range",data:=.fields #[.int lo t,.int hi u,.int 1 v] }).objs.size],_,_,H,rfl,
  I1.kept (t':=tk) λb o e=>tu _ e,BS _ lo (hi-lo).toNat,?_,λb hb=>?_,q⟩
 .
  have e1:lo+((0:Nat):Int)*1=lo:=by simp
  have e2:(((hi-lo).toNat:Nat):Int)-((0:Nat):Int)=Builtin.Range.rangeSize lo hi 1:=by rw[rangeSize_one];split<;>omega
  show IsRangeIter _ _ (lo+((0:Nat):Int)*1) ((((hi-lo).toNat:Nat):Int)-((0:Nat):Int)) 1;rw[e1,e2];exact U3 _ rfl
 .
  have e:b=(s.heap.push {cls:=.type "range",data:=.fields #[.int lo t,.int hi u,.int 1 v] }).objs.size:=by simpa using hb
  subst e;exact I1.fpOk (US _) (I1.hok.fresh (US _))
noncomputable def NJ(ta:TA):TI:=λσ H R=>ta σ H λvs H1=>∃j:Int,vs=[.int j]/\-(2^62)<=j/\j<2^62/\R (Ql 0 j.toNat) H1
theorem CW{a:Expr}{ta:TA}{p pos:Pos} (hg:Gl X "range") (hm:X.mg "range"=none) (ha:PA X [a] ta) (hs:starEach [a] X.env=[(false,eval a X.env)]:=by rfl):PI X tg (.Call (.Name "range" p) [a] [] pos) (NJ ta):=by
 intro ab s σ H R I h;refine Call_ (oI I hg hm boot_range (V4 (Qb (ha pos ab s σ H _ I h) λus s1 ⟨vs,H1,I1,r1,q1⟩=>?_) hs rfl));obtain⟨j,e,q1,q2,q⟩:=q1;subst e
 cases r1 with
 | cons r rr =>
  cases rr;obtain⟨t,rfl⟩:=r;exact call_range_1 (Fy I1 xL xL q1 q2 (by simpa using q))
noncomputable def xl(fp:List Addr)(h:Heap):List (Addr×Obj):=fp.filterMap λb=>(h.get? b).map λo=>(b,o)
theorem l4{fp:List Addr}{h:Heap}{b:Addr}{o:Obj}(hb:b∈fp)(e:h.get? b=some o):(b,o)∈xl fp h:=Wt.mpr ⟨b,hb,by rw[e];rfl⟩
theorem CY{fp:List Addr}{h:Heap}{p:Addr×Obj}(hp:p∈xl fp h):p.1∈fp/\h.get? p.1=some p.2:=by
 obtain⟨b,hb,e⟩:=Wt.mp hp
 cases q:h.get? b with
 |none=>rw[q]at e;cases e
 | some o =>
  rw[q]at e;have e':(b,o)=p:=U6 e;subst e';exact⟨hb,q⟩
theorem P7.pinned{ab:List (Addr×Obj)}{σ:St}{H:Hp}{s:Shared}{fp:List Addr}(I:P7 X ab σ H s)(hf:∀b∈fp,CU X ab H b)(ho:∀b∈fp,∃o,s.heap.get? b=some o/\∀v,o.data≠.cell v):P7 X (ab++xl fp s.heap) σ H s :=
 I.pins_of λp hp=>(Vg.mp hp).elim (λz=>I.pin p (U2 _ z)) λz=>by obtain⟨hb,e⟩:=CY z;obtain⟨f0,f1,f2,_⟩:=hf p.1 hb;obtain⟨o,e',d⟩:=ho p.1 hb;rw[e]at e';cases e';exact⟨e,f0,f1,f2,d⟩
theorem P7.unpinned{ab pl:List (Addr×Obj)}{σ:St}{H:Hp}{s:Shared}(I:P7 X (ab++pl) σ H s):P7 X ab σ H s:=I.pins_of λp hp=>I.pin p (U2 _ (U8 _ hp))
end
abbrev R2:=V->V->Hp->VK->Prop
def Qm(X:Cx)(f:Value->Value->Sem Value)(r:R2):Prop :=
 ∀(ab:List (Addr×Obj))(s:Shared)(σ:St)(H:Hp)(x y:V)(v u:Value)(Q:VK),P7 X ab σ H s->cq x v->cq y u->r x y H Q ->
  wpAny (model X.prog X.w) X.A (f v u) (EP X ab σ Q) X.xe s
def Qn(X:Cx)(f:Value->Sem Value)(r:V->Hp->VK->Prop):Prop :=
 ∀(ab:List (Addr×Obj))(s:Shared)(σ:St)(H:Hp)(x:V)(v:Value)(Q:VK),P7 X ab σ H s->cq x v->r x H Q ->
  wpAny (model X.prog X.w) X.A (f v) (EP X ab σ Q) X.xe s
def kG(X:Cx)(f:Value)(r:List V->Hp->VK->Prop):Prop :=
 ∀(ab:List (Addr×Obj))(s:Shared)(σ:St)(H:Hp)(xs:List V)(us:List Value)(Q:VK),P7 X ab σ H s->cK xs us->r xs H Q ->
  wpAny (model X.prog X.w) X.A (call f us) (EP X ab σ Q) X.xe s
def Qo(r:R2)(ta tb:TE):TE:=λσ H Q=>ta σ H λx H1=>tb σ H1 λy H2=>r x y H2 Q
def rI(C:Int->Int->Prop)(g:Int->Int->V):R2:=λx y H Q=>∃i j,x=.int i/\y=.int j/\C i j/\Q (g i j) H
def Qp(g:Int->Int->V):R2:=λx y H Q=>∃i j,x=.int i/\y=.int j/\Q (g i j) H
def rU(g:Int->V):V->Hp->VK->Prop:=λx H Q=>∃i,x=.int i/\Q (g i) H
section
variable{X:Cx}{a b:Expr}{ta tb:TE}
theorem Pg(ha:PE X a ta)(hb:PE X b tb){ab:List (Addr×Obj)}{s:Shared}{σ:St}{H:Hp}{R:V->V->Hp->Prop}(I:P7 X ab σ H s)
  (h:ta σ H λx H1=>tb σ H1 λy H2=>R x y H2) {Q:Value->Shared->Prop} {f:Value->Value->Sem Value}
  (hf:∀v u s2 x y H2,P7 X ab σ H2 s2->cq x v->cq y u->R x y H2->wpAny (model X.prog X.w) X.A (f v u) Q X.xe s2) :
  wpAny (model X.prog X.w) X.A (eval a X.env) (λv s₁=>wpAny (model X.prog X.w) X.A (eval b X.env) (λu s₂=>wpAny (model X.prog X.w) X.A (f v u) Q X.xe s₂) X.xe s₁) X.xe s:=by
 refine Qb (ha ab s σ H _ I h) λv s1 ⟨x,H1,I1,r1,q1⟩=>?_;refine Qb (hb ab s1 σ H1 _ I1 q1) λu s2 ⟨y,H2,I2,r2,q2⟩=>?_;exact hf v u s2 x y H2 I2 r1 r2 q2
theorem Qq{f:Value->Value->Sem Value}{C:Int->Int->Prop}{g:Int->Int->Int}
  (rule:∀(i j:Int)(t u:Tok)(s:Shared)(Q:Value->Shared->Prop)(E:Value->Shared->Prop),C i j->Q (.int (g i j) s.toks) {s with toks:=s.toks+1}->wpAny (model X.prog X.w) X.A (f (.int i t) (.int j u)) Q E s) :
  Qm X f (rI C λi j=>.int (g i j)):=by
 intro ab s σ H x y v u Q I rx ry h;obtain⟨i,j,rfl,rfl,hc,q⟩:=h;obtain⟨t,rfl⟩:=rx;obtain⟨t',rfl⟩:=ry;exact rule i j t t' s _ _ hc ⟨.int (g i j),H,I.tok _,⟨_,rfl⟩,q⟩
theorem OO{f:Value->Value->Sem Value}{g:Int->Int->Int}
  (rule:∀(i j:Int)(t u:Tok)(s:Shared)(Q:Value->Shared->Prop)(E:Value->Shared->Prop),Q (.int (g i j) s.toks) {s with toks:=s.toks+1}->wpAny (model X.prog X.w) X.A (f (.int i t) (.int j u)) Q E s) :
  Qm X f (Qp λi j=>.int (g i j)):=by
 intro ab s σ H x y v u Q I rx ry h;obtain⟨i,j,rfl,rfl,q⟩:=h;obtain⟨t,rfl⟩:=rx;obtain⟨t',rfl⟩:=ry;exact rule i j t t' s _ _ ⟨.int (g i j),H,I.tok _,⟨_,rfl⟩,q⟩
theorem Nw{f:Value->Value->Sem Value}{g:Int->Int->Bool}
  (rule:∀(i j:Int)(t u:Tok)(s:Shared)(Q:Value->Shared->Prop)(E:Value->Shared->Prop),Q (.bool (g i j)) s->wpAny (model X.prog X.w) X.A (f (.int i t) (.int j u)) Q E s) :
  Qm X f (Qp λi j=>.bl (g i j)):=by
 intro ab s σ H x y v u Q I rx ry h;obtain⟨i,j,rfl,rfl,q⟩:=h;obtain⟨t,rfl⟩:=rx;obtain⟨t',rfl⟩:=ry;exact rule i j t t' s _ _ ⟨.bl (g i j),H,I,rfl,q⟩
def Ph(i j:Int):Prop:=0<=j/\j<=1000000/\i.natAbs<2^64
def OP(i j:Int):Prop:=(-(2^64)<i/\i<2^64)∨(-(2^64)<j/\j<2^64)
theorem OP.ok{i j:Int}(h:OP i j):IntMulOk i j:=by
 rcases h with⟨h1,h2⟩|⟨h1,h2⟩
 . exact .of_left (intBits_le_64 h1 h2)
 . exact .of_right (intBits_le_64 h1 h2)
theorem Ll:Qm X (binaryOp .Add) (Qp λi j=>.int (i+j)):=OO λ_ _ _ _ _ _ _ q=>add_int q
theorem Lm:Qm X (binaryOp .Sub) (Qp λi j=>.int (i-j)):=OO λ_ _ _ _ _ _ _ q=>sub_int q
theorem IR:Qm X (binaryOp .Mod) (rI (λ_ j=>j≠0) λi j=>.int (i.fmod j)):=Qq λ_ _ _ _ _ _ _ hc q=>mod_int' hc q
theorem Ln:Qm X (binaryOp .Pow) (rI Ph λi j=>.int (i^j.toNat)):=Qq λ_ _ _ _ _ _ _ hc q=>pow_int_small hc.1 hc.2.1 hc.2.2 q
theorem Qr{f:Value->Sem Value}{g:Int->Int}
  (rule:∀(i:Int)(t:Tok)(s:Shared)(Q:Value->Shared->Prop)(E:Value->Shared->Prop),Q (.int (g i) s.toks) {s with toks:=s.toks+1}->wpAny (model X.prog X.w) X.A (f (.int i t)) Q E s) :
  Qn X f (rU λi=>.int (g i)):=by
 intro ab s σ H x v Q I rx h;obtain⟨i,rfl,q⟩:=h;obtain⟨t,rfl⟩:=rx;exact rule i t s _ _ ⟨.int (g i),H,I.tok _,⟨_,rfl⟩,q⟩
theorem Lo:Qn X (unaryOp .USub) (rU λi=>.int (-i)):=Qr λ_ _ _ _ _ q=>neg_int q
end
noncomputable def OQ:V->V->Bool
 |.non,.non=>true | .non,.int _=>true | .int _,.non=>true | .non,.bl _=>true | .bl _,.non=>true | .non,.str _=>true | .str _,.non=>true
 |.int _,.int _=>true | .bl _,.bl _=>true | .str _,.str _=>true | .byt _,.byt _=>true
 |.int _,.str _=>true | .str _,.int _=>true | .bl _,.str _=>true | .str _,.bl _=>true
 |_,_=>false
def Qs:R2:=λx y H Q=>OQ x y=true/\Q (.bl (decide (x=y))) H
def Qt:R2:=λx y H Q=>OQ x y=true/\Q (.bl (!decide (x=y))) H
theorem CZ{i j:Int}:decide (V.int i=V.int j)=(i == j):=by rw[VT];simp
theorem HI{i j:Bool}:decide (V.bl i=V.bl j)=(i == j):=by rw[VT];simp
theorem C0{i j:Str}:decide (V.str i=V.str j)=(i == j):=by rw[VT];simp
theorem C1{i j:Array UInt8}:decide (V.byt i=V.byt j)=(i.toList == j.toList):=by rw[VT];cases i;cases j;simp
section
variable{X:Cx}{a b c:Expr}{ta tb tc:TE}{pos:Pos}
theorem bJ{ab:List (Addr×Obj)}{σ:St}{H:Hp}{s:Shared}{Q:VK}{k k':Bool}(I:P7 X ab σ H s)(q:Q (.bl k) H)(e:k=k'):EP X ab σ Q (.bool k') s:=by subst e;exact⟨.bl k,H,I,rfl,q⟩
theorem NK:Qm X (compareOp .Eq) Qs:=by
 intro ab s σ H x y v u Q I rx ry h;obtain⟨hs,q⟩:=h
 cases x with
 | non =>
  cases rx
  cases y with
  |non=>cases ry;exact PySem.EqNone.eq_none_none (bJ I q x_)
  |bl j=>cases ry;exact PySem.EqNone.eq_none_bool (bJ I q x_)
  |int j=>obtain⟨t',rfl⟩:=ry;exact PySem.EqNone.eq_none_int (bJ I q x_)
  |str j=>obtain⟨t',rfl⟩:=ry;exact PySem.EqNone.eq_none_str (bJ I q x_)
  |_=>exact absurd (show false=true from hs) U4
 | bl i =>
  cases rx
  cases y with
  |non=>cases ry;exact PySem.EqNone.eq_bool_none (bJ I q x_)
  |bl j=>cases ry;exact eq_bool (bJ I q HI)
  |str j=>obtain⟨t',rfl⟩:=ry;exact PySem.EqMixed.eq_bool_str (bJ I q x_)
  |_=>exact absurd (show false=true from hs) U4
 | int i =>
  obtain⟨t,rfl⟩:=rx
  cases y with
  |non=>cases ry;exact PySem.EqNone.eq_int_none (bJ I q x_)
  |int j=>obtain⟨t',rfl⟩:=ry;exact eq_int (bJ I q CZ)
  |str j=>obtain⟨t',rfl⟩:=ry;exact PySem.EqMixed.eq_int_str (bJ I q x_)
  |_=>exact absurd (show false=true from hs) U4
 | str i =>
  obtain⟨t,rfl⟩:=rx
  cases y with
  |non=>cases ry;exact PySem.EqNone.eq_str_none (bJ I q x_)
  |bl j=>cases ry;exact PySem.EqMixed.eq_str_bool (bJ I q x_)
  |int j=>obtain⟨t',rfl⟩:=ry;exact PySem.EqMixed.eq_str_int (bJ I q x_)
  |str j=>obtain⟨t',rfl⟩:=ry;exact eq_str (bJ I q C0)
  |_=>exact absurd (show false=true from hs) U4
 | byt i =>
  obtain⟨t,rfl⟩:=rx
  cases y with
  |byt j=>obtain⟨t',rfl⟩:=ry;exact PySem.W.eq_bytes (bJ I q C1)
  |_=>exact absurd (show false=true from hs) U4
 |_=>cases y<;>exact absurd (show false=true from hs) U4
theorem NL:Qm X (compareOp .NotEq) Qt:=by
 intro ab s σ H x y v u Q I rx ry h;obtain⟨hs,q⟩:=h
 cases x with
 | non =>
  cases rx
  cases y with
  |non=>cases ry;exact PySem.EqNone.ne_none_none (bJ I q x_)
  |bl j=>cases ry;exact PySem.EqNone.ne_none_bool (bJ I q x_)
  |int j=>obtain⟨t',rfl⟩:=ry;exact PySem.EqNone.ne_none_int (bJ I q x_)
  |str j=>obtain⟨t',rfl⟩:=ry;exact PySem.EqNone.ne_none_str (bJ I q x_)
  |_=>exact absurd (show false=true from hs) U4
 | bl i =>
  cases rx
  cases y with
  |non=>cases ry;exact PySem.EqNone.ne_bool_none (bJ I q x_)
  |bl j=>cases ry;exact ne_bool (bJ I q (WG not HI))
  |str j=>obtain⟨t',rfl⟩:=ry;exact PySem.EqMixed.ne_bool_str (bJ I q x_)
  |_=>exact absurd (show false=true from hs) U4
 | int i =>
  obtain⟨t,rfl⟩:=rx
  cases y with
  |non=>cases ry;exact PySem.EqNone.ne_int_none (bJ I q x_)
  |int j=>obtain⟨t',rfl⟩:=ry;exact ne_int (bJ I q (WG not CZ))
  |str j=>obtain⟨t',rfl⟩:=ry;exact PySem.EqMixed.ne_int_str (bJ I q x_)
  |_=>exact absurd (show false=true from hs) U4
 | str i =>
  obtain⟨t,rfl⟩:=rx
  cases y with
  |non=>cases ry;exact PySem.EqNone.ne_str_none (bJ I q x_)
  |bl j=>cases ry;exact PySem.EqMixed.ne_str_bool (bJ I q x_)
  |int j=>obtain⟨t',rfl⟩:=ry;exact PySem.EqMixed.ne_str_int (bJ I q x_)
  |str j=>obtain⟨t',rfl⟩:=ry;exact ne_str (bJ I q (WG not C0))
  |_=>exact absurd (show false=true from hs) U4
 | byt i =>
  obtain⟨t,rfl⟩:=rx
  cases y with
  |byt j=>obtain⟨t',rfl⟩:=ry;exact PySem.W.ne_bytes (bJ I q (WG not C1))
  |_=>exact absurd (show false=true from hs) U4
 |_=>cases y<;>exact absurd (show false=true from hs) U4
theorem Lp:Qm X (compareOp .Lt) (Qp λi j=>.bl (decide (i<j))):=Nw λ_ _ _ _ _ _ _ q=>lt_int q
theorem Lq:Qm X (compareOp .LtE) (Qp λi j=>.bl (decide (i<=j))):=Nw λ_ _ _ _ _ _ _ q=>le_int q
theorem NM:Qm X (compareOp .Gt) (Qp λi j=>.bl (decide (j<i))):=Nw λ_ _ _ _ _ _ _ q=>gt_int q
theorem NN:Qm X (compareOp .GtE) (Qp λi j=>.bl (decide (j<=i))):=Nw λ_ _ _ _ _ _ _ q=>ge_int q
theorem Lr:Qm X (compareOp .Is) (λx y H Q=>y=.non/\Q (.bl (decide (x=.non))) H):=by
 intro ab s σ H x y v u Q I rx ry h;obtain⟨rfl,q⟩:=h;cases ry;refine is_none_gen (bJ I q ?_)
 cases x<;>first
  |(cases rx;rfl)
  |(obtain⟨t,rfl⟩:=rx;rfl)
theorem IS:Qm X (compareOp .IsNot) (λx y H Q=>y=.non/\Q (.bl (!decide (x=.non))) H):=by
 intro ab s σ H x y v u Q I rx ry h;obtain⟨rfl,q⟩:=h;cases ry;refine isnot_none_gen (bJ I q ?_)
 cases x<;>first
  |(cases rx;rfl)
  |(obtain⟨t,rfl⟩:=rx;rfl)
theorem aT(b:Expr){op:CmpOp}(h:op≠.In:=by decide)(h2:op≠.NotIn:=by decide):behindInMarks op b=false:=by
 have e1:(op == CmpOp.In)=false:=by cases op<;>first|rfl|exact absurd rfl h
 have e2:(op == CmpOp.NotIn)=false:=by cases op<;>first|rfl|exact absurd rfl h2
 cases b<;>simp[behindInMarks,e1,e2]
noncomputable def Ls(t:TE):TT:=λσ H Q=>t σ H λx H'=>∃k,x=.bl k/\Q k H'
theorem NO{op:CmpOp}{r:R2}(ho:Qm X (compareOp op) r)(ha:PE X a ta)(hb:PE X b tb)(hm:behindInMarks op b=false):PT X (.Compare a [op] [b] pos) (Ls (Qo r ta tb)):=by
 intro ab s σ H Q I h
 refine wpAny_isTrue_Compare1 (Qb (ha ab s σ H _ I h) λv s1 ⟨x,H1,I1,r1,q1⟩=>Qb (hb ab s1 σ H1 _ I1 q1) λu s2 ⟨y,H2,I2,r2,q2⟩ =>
  Qb (ho ab s2 σ H2 x y v u _ I2 r1 r2 q2) λc s3 ⟨z,H3,I3,r3,k,e,q3⟩=>?_) hm
 subst e;cases r3;exact Vt ⟨H3,I3,q3⟩
def C2(r r':R2)(ta tb tc:TE):TE:=λσ H Q=>ta σ H λx H1=>tb σ H1 λy H2=>r x y H2 λz H3=>∃k,z=.bl k /\
 (if k=true then tc σ H3 λw' H4=>r' y w' H4 Q else Q (.bl false) H3)
theorem Fz{op op':CmpOp}{r r':R2}(ho:Qm X (compareOp op) r)(ho':Qm X (compareOp op') r')(ha:PE X a ta)(hb:PE X b tb)(hc:PE X c tc)
  (hm:lastMarks [op,op'] [b,c]=false:=by with_unfolding_all rfl):PE X (.Compare a [op,op'] [b,c] pos) (C2 r r' ta tb tc):=by
 intro ab s σ H Q I h
 refine Compare_chain (Qb (ha ab s σ H _ I h) λv s1 ⟨x,H1,I1,r1,q1⟩=>chain_link (Qb (hb ab s1 σ H1 _ I1 q1) λu s2 ⟨y,H2,I2,r2,q2⟩ =>
  Qb (ho ab s2 σ H2 x y v u _ I2 r1 r2 q2) λd s3 ⟨z,H3,I3,r3,k,e,q3⟩=>?_)) hm
 subst e;cases r3;refine Vt ?_
 cases k with
 |false=>exact ite_ff ⟨.bl false,H3,I3,rfl,q3⟩
 |true=>exact ite_tt (chain_last (Qb (hc ab s3 σ H3 _ I3 q3) λw' s4 ⟨z',H4,I4,r4,q4⟩=>ho' ab s4 σ H4 y z' u w' Q I4 r2 r4 q4))
theorem FC{op op':CmpOp}{r r':R2}(ho:Qm X (compareOp op) r)(ho':Qm X (compareOp op') r')(ha:PE X a ta)(hb:PE X b tb)(hc:PE X c tc)
  (hm:lastMarks [op,op'] [b,c]=false:=by with_unfolding_all rfl):PT X (.Compare a [op,op'] [b,c] pos) (Ls (C2 r r' ta tb tc)):=by
 intro ab s σ H Q I h
 refine isTrue_chain (Qb (ha ab s σ H _ I h) λv s1 ⟨x,H1,I1,r1,q1⟩=>test_link (Qb (hb ab s1 σ H1 _ I1 q1) λu s2 ⟨y,H2,I2,r2,q2⟩ =>
  Qb (ho ab s2 σ H2 x y v u _ I2 r1 r2 q2) λd s3 ⟨z,H3,I3,r3,k,e,q3⟩=>?_)) hm
 subst e;cases r3;refine Vt ?_
 cases k with
 | false =>
  obtain⟨k',e',q'⟩:=q3;cases e';exact ite_ff ⟨H3,I3,q'⟩
 | true =>
  refine ite_tt (test_last (Qb (hc ab s3 σ H3 _ I3 q3) λw' s4 ⟨z',H4,I4,r4,q4⟩=>Qb (ho' ab s4 σ H4 y z' u w' _ I4 r2 r4 q4) λd' s5 ⟨z2,H5,I5,r5,k2,e2,q5⟩=>?_));subst e2;cases r5;exact Vt ⟨H5,I5,q5⟩
theorem u0:(sizeLine:Nat)<2^63:=by rw[Wh];decide
theorem BU:Qm X (binaryOp .Add) (λx y H Q=>∃i j,x=.str i/\y=.str j/\i.length+j.length<=sizeLine/\Q (.str (i++j)) H):=by intro ab s σ H x y v u Q I rx ry h;obtain⟨i,j,rfl,rfl,hz,q⟩:=h;obtain⟨t,rfl⟩:=rx;obtain⟨t',rfl⟩:=ry;exact add_str (λt' tk=>⟨.str (i++j),H,I.tok _,⟨_,rfl⟩,q⟩) hz
theorem sj{x:V}{us:List Value}(r:cK [x] us):∃u,us=[u]/\cq x u:=by
 cases r with
 |cons r1 r2=>cases r2;exact⟨_,rfl,r1⟩
theorem IT{x y:V}{us:List Value}(r:cK [x,y] us):∃u w',us=[u,w']/\cq x u/\cq y w':=by
 cases r with
 | cons r1 r2 =>
  cases r2 with
  |cons r3 r4=>cases r4;exact⟨_,_,rfl,r1,r3⟩
theorem FD:kG X (.builtin "abs") (λxs H Q=>∃ i,xs=[.int i]/\Q (.int (if i < 0 then -i else i)) H):=by
 intro ab s σ H xs us Q I r h;obtain⟨i,rfl,q⟩:=h;obtain⟨u,rfl,t,rfl⟩:=sj r
 exact call_abs_int λu tk=>⟨.int (if i<0 then -i else i),H,I.tok _,⟨_,rfl⟩,q⟩
theorem C3(hc:X.calm=true):kG X (.builtin "max") (λxs H Q=>∃ i j,xs=[.int i,.int j]/\Q (.int (if j > i then j else i)) H):=by
 intro ab s σ H xs us Q I r h;obtain⟨i,j,rfl,q⟩:=h;obtain⟨u,w',rfl,⟨t,rfl⟩,⟨t',rfl⟩⟩:=IT r;refine max_two_ints (I.ok.hd hc) λh' tk k=>⟨_,H,I.kept k,?_,q⟩;by_cases hj:j > i
 . rw[if_pos hj,if_pos hj];exact⟨_,rfl⟩
 . rw[if_neg hj,if_neg hj];exact⟨_,rfl⟩
theorem C4(hc:X.calm=true):kG X (.builtin "min") (λxs H Q=>∃ i j,xs=[.int i,.int j]/\Q (.int (if j < i then j else i)) H):=by
 intro ab s σ H xs us Q I r h;obtain⟨i,j,rfl,q⟩:=h;obtain⟨u,w',rfl,⟨t,rfl⟩,⟨t',rfl⟩⟩:=IT r;refine min_two_ints (I.ok.hd hc) λh' tk k=>⟨_,H,I.kept k,?_,q⟩;by_cases hj:j<i
 . rw[if_pos hj,if_pos hj];exact⟨_,rfl⟩
 . rw[if_neg hj,if_neg hj];exact⟨_,rfl⟩
theorem C5:kG X (.type "int") (λxs H Q=>(∃ i,xs=[.int i]/\Q (.int i) H)∨∃ k,xs=[.bl k]/\Q (.int (if k then 1 else 0)) H):=by
 intro ab s σ H xs us Q I r h;rcases h with⟨i,rfl,q⟩|⟨k,rfl,q⟩
 . obtain⟨u,rfl,t,rfl⟩:=sj r;exact call_int_int ⟨.int i,H,I,⟨_,rfl⟩,q⟩
 .
  obtain⟨u,rfl,r1⟩:=sj r;cases r1
  exact call_int_bool ⟨.int (if k then 1 else 0),H,I.tok _,⟨_,rfl⟩,q⟩
end
structure mv (k:Nat) (A:Around):Prop where
 hd:A.handled=none
 dp:A.depth+3*k+5<recursionLimit
 un:A.units+16*k+200<cLine
 gd:A.guards=some []
theorem mv.mono{j k:Nat}{A:Around}(r:mv k A)(h:j<=k):mv j A:=⟨r.hd,by have:=r.dp;omega,by have:=r.un;omega,r.gd⟩
theorem mv.deeper{k:Nat}{A:Around}(r:mv (k+1) A)(env:Env):mv k (A.deeper env) :=
 ⟨r.hd,by have:=r.dp;show A.depth+1+3*k+5<_;omega,by have:=r.un;show A.units+3+16*k+200<_;omega,r.gd⟩
theorem mv.in1{k:Nat}{A:Around}(r:mv (k+1) A):mv k A.in1 :=
 ⟨r.hd,by have:=r.dp;show A.depth+3*k+5<_;omega,by have:=r.un;show A.units+1+16*k+200<_;omega,r.gd⟩
theorem mv.depth{k:Nat}{A:Around}(r:mv k A):A.depth<recursionLimit:=by have:=r.dp;omega
theorem mv.units{k:Nat}{A:Around}(r:mv k A):A.units+64<cLine:=by have:=r.un;omega
noncomputable def Pi:TA:=λ_ H Q=>Q [] H
noncomputable def NP(ta:TE)(tr:TA):TA:=λσ H Q=>ta σ H λx H1=>tr σ H1 λxs H2=>Q (x::xs) H2
section
variable{X:Cx}{e:Expr}{es:List Expr}{te:TE}{t:TA}{pos:Pos}
theorem sq:PA X [] Pi:=λ_ _ _ _ H Q I h=>Calls.spliced_nil ⟨[],H,I,.nil,h⟩
theorem gW(ha:PE X e te)(hr:PA X es t)(hs:starEach (e::es) X.env=(false,eval e X.env)::starEach es X.env:=by rfl):PA X (e::es) (NP te t):=by intro pos ab s σ H Q I h;rw[hs];show wpAny _ _ (spliced ((false,eval e X.env)::backTo pos (starEach es X.env))) _ _ s;refine Calls.spliced_cons (Qb (ha ab s σ H _ I h) λu s1 ⟨x,H1,I1,r1,q1⟩=>?_);exact Qb (hr pos ab s1 σ H1 _ I1 q1) λus s2 ⟨xs,H2,I2,r2,q2⟩=>⟨x::xs,H2,I2,.cons r1 r2,q2⟩
end
noncomputable abbrev Sp:=List V->Hp->VK->XK->Prop
noncomputable abbrev Qu:=List Env->Hp->Shared->XK->Value->Shared->Prop
structure FE (P:Program) (w:World) (K:PySem.W.Frag) (mg:Str->Option Value) (base:Heap) (A:Around) (outer:List Env) (s:Shared) (H:Hp):Prop where
 frames:A.frames=some outer
 mod:Mod K mg base
 bs:∀b o,base.get? b=some o->s.heap.get? b=some o/\H b=none
 bsz:base.objs.size<=s.heap.objs.size
 funs:s.heap.FunFrames base outer
 frf:∀b∈P4 outer,H b=none
 hok:PZ P w H s.heap
 bare:AllBare s.gens
 tbs:P2 K H
inductive CE (outer:List Env) (P:Program) (w:World) (H:Hp) (s:Shared) (Q:VK) (u:Value) (s':Shared):Prop
 |mk (v:V) (H':Hp) (os:s'.os=s.os) (g:AllBare s'.gens) (un:Un (P4 outer) [] H H' s.heap s'.heap) (ok:PZ P w H' s'.heap) (r:cq v u) (q:Q v H')
def CR(CX:Qu)(outer:List Env)(P:Program)(w:World)(H:Hp)(s:Shared)(Q:VK)(E:XK)(r:Result)(s':Shared):Prop :=
 match r with
 |.ok (.ret u)=>CE outer P w H s Q u s'
 |.ok _=>False
 |.error e=>CX outer H s E e s'
structure FnOk (P:Program) (w:World) (K:PySem.W.Frag) (mg:Str->Option Value) (base:Heap) (CX:Qu) (k:Nat) (f:Addr) (fd:FuncData) (ps:List Str) (sp:Sp):Prop where
 len:∀vs H Q E,sp vs H Q E->vs.length=ps.length
 run:∀(A:Around)(outer:List Env)(s:Shared)(H:Hp)(args:Args)(us:List Value)(vs:List V)(Q:VK)(E:XK),mv k A->FE P w K mg base A outer s H->BindsTo s fd args (ps.zip us)->cK vs us->sp vs H Q E ->
  codeAny (model P w) A (.call (.ref f) args) (CR CX outer P w H s Q E) s
theorem FnOk.mono{P:Program}{w:World}{K:PySem.W.Frag}{mg:Str->Option Value}{base:Heap}{CX:Qu}{j k:Nat}{f:Addr}{fd:FuncData}{ps:List Str}{sp:Sp}(F:FnOk P w K mg base CX j f fd ps sp)(h:j<=k) :
  FnOk P w K mg base CX k f fd ps sp:=⟨F.len,λA outer s H args us vs Q E hr=>F.run A outer s H args us vs Q E (hr.mono h)⟩
theorem FE.in1{P:Program}{w:World}{K:PySem.W.Frag}{mg:Str->Option Value}{base:Heap}{A:Around}{outer:List Env}{s:Shared}{H:Hp}(e:FE P w K mg base A outer s H) :
  FE P w K mg base A.in1 outer s H:=⟨e.frames,e.mod,e.bs,e.bsz,e.funs,e.frf,e.hok,e.bare,e.tbs⟩
section
variable{X:Cx}{ab:List (Addr×Obj)}{σ:St}{H:Hp}{s s':Shared}
theorem P7.env0(I:P7 X ab σ H s):FE X.prog X.w X.K X.mg X.base X.A X.stack s H :=
 ⟨I.ok.frames,I.ok.mod,I.bs,UT I.ok.bsz I.sz,I.stack,I.stkFree,I.hok,I.bare,I.tbs⟩
theorem P7.after{Q:VK}{u:Value}(I:P7 X ab σ H s)(h:CE X.stack X.prog X.w H s Q u s'):EP X ab σ Q u s':=by obtain⟨v,H',os,bare,un,hok,r,q⟩:=h;obtain⟨hh,g,d,t,os'⟩:=s';obtain rfl:os'=s.os:=os;exact⟨v,H',I.call (h':=hh) (g':=g) (d':=d) (t':=t) (ch:=[]) un hok bare (λb z=>absurd z x_),r,q⟩
end
def zd(K:PySem.W.Frag)(fd:FuncData)(ps:List Str)(ds:List Value):Prop :=
 ∀(s:Shared)(us:List Value),K.In s.heap->(us++ds).length=ps.length->BindsTo s fd ⟨us,[]⟩ (ps.zip (us++ds))
theorem zd.all{K:PySem.W.Frag}{fd:FuncData}{ps:List Str}(h:∀us:List Value,us.length=ps.length->bindArgs fd ⟨us,[]⟩=pure (ps.zip us)):zd K fd ps []:=λs us _ hl=>by rw[VC]at hl ⊢;exact .of_eq (h us hl)
def AM(CX:Qu)(X:Cx)(E:XK):Prop:=∀(ab:List (Addr×Obj))(σ:St)(H:Hp)(s:Shared)(e:Value)(s':Shared),P7 X ab σ H s->CX X.stack H s E e s'->X.xe e s'
section
variable{X:Cx}{CX:Qu}{k:Nat}{f:Addr}{fd:FuncData}{ps:List Str}{sp:Sp}{dvs:List V}{ds:List Value}{E:XK}{e:Expr}
theorem HJ{ab:List (Addr×Obj)}{σ:St}{H:Hp}{s:Shared}{Q:VK}{us:List Value}{vs:List V}(F:FnOk X.prog X.w X.K X.mg X.base CX k f fd ps sp)(hr:mv k X.A)(hb:zd X.K fd ps ds)(hd:cK dvs ds)(hx:AM CX X E)
  (I:P7 X ab σ H s) (r:cK vs us) (h:sp (vs++dvs) H Q E):wpAny (model X.prog X.w) X.A (call (.ref f) us) (EP X ab σ Q) X.xe s:=by
 have r2:cK (vs++dvs) (us++ds):=r.append hd;have hl:(us++ds).length=ps.length:=by rw[<- r2.length];exact F.len _ _ _ _ h
 refine wpAny_call (codeAny_mono (F.run X.A X.stack s H ⟨us,[]⟩ (us++ds) (vs++dvs) Q E hr I.env0 (hb s us I.kIn hl) r2 h) λr s' hq=>?_)
 cases r with
 |error e=>exact hx ab σ H s e s' I hq
 | ok fl =>
  cases fl with
  |ret u=>exact I.after hq
  |next=>exact False.elim hq
  |brk=>exact False.elim hq
  |cont=>exact False.elim hq
end
structure aE (N P:List Str) (sc:Scope):Prop where
 kind:sc.kind=.function
 co:sc.isCoroutine=false
 gen:sc.isGenerator=false
 nd:N.Nodup
 pre:N.take P.length=P
 par:∀x∈P,sc.names.lookup x=some .local∨sc.names.lookup x=some .cell
 nofree:∀y∈sc.names,y.2≠.free
theorem xm{kindOf:Str->Option NameKind}{x:Str}:∀{binds:List (Str×Value)}{m:Str->Option Value},(∀v,(x,v)∉binds)->bindL kindOf binds m x=m x
 |[],_,_=>rfl
 | (n,v)::r,m,h=>by
  unfold bindL;rw[xm λw hw=>h w (gV _ hw)];split
  .
   have:x≠n:=by rintro rfl;exact h v p4
   simp[this]
  . rfl
theorem xn{kindOf:Str->Option NameKind}{x:Str}:∀{binds:List (Str×Value)}{m:Str->Option Value},(∀v,(x,v)∉binds)->bindC kindOf binds m x=m x
 |[],_,_=>rfl
 | (n,v)::r,m,h=>by
  unfold bindC;rw[xn λw hw=>h w (gV _ hw)];split
  . rfl
  .
   have:x≠n:=by rintro rfl;exact h v p4
   simp[this]
theorem xo{kindOf:Str->Option NameKind}{x:Str}{v:Value}:∀{P:List Str}{vs:List Value}{i:Nat}{m:Str->Option Value},P.Nodup->P[i]?=some x->vs[i]?=some v->kindOf x=some .local ->
  bindL kindOf (P.zip vs) m x=some v
 |[],_,_,_,_,h,_,_=>by simp at h
 |_::_,[],_,_,_,_,h,_=>by simp at h
 | p::P,w::vs,0,m,nd,h1,h2,hk=>by simp at h1 h2;subst h1;subst h2;show bindL kindOf ((p,w)::P.zip vs) m p=_;unfold bindL;rw[xm λv hv=>(Vf.mp nd).1 (List.of_mem_zip hv).1,if_pos hk];simp
 | p::P,w::vs,i+1,m,nd,h1,h2,hk=>by show bindL kindOf ((p,w)::P.zip vs) m x=_;unfold bindL;exact xo (i:=i) (Vf.mp nd).2 (by simpa using h1) (by simpa using h2) hk
theorem xq{kindOf:Str->Option NameKind}{x:Str}{v:Value}:∀{P:List Str}{vs:List Value}{i:Nat}{m:Str->Option Value},P.Nodup->P[i]?=some x->vs[i]?=some v->kindOf x≠some .local ->
  bindC kindOf (P.zip vs) m x=some v
 |[],_,_,_,_,h,_,_=>by simp at h
 |_::_,[],_,_,_,_,h,_=>by simp at h
 | p::P,w::vs,0,m,nd,h1,h2,hk=>by simp at h1 h2;subst h1;subst h2;show bindC kindOf ((p,w)::P.zip vs) m p=_;unfold bindC;rw[xn λv hv=>(Vf.mp nd).1 (List.of_mem_zip hv).1,if_neg hk];simp
 | p::P,w::vs,i+1,m,nd,h1,h2,hk=>by show bindC kindOf ((p,w)::P.zip vs) m x=_;unfold bindC;exact xq (i:=i) (Vf.mp nd).2 (by simpa using h1) (by simpa using h2) hk
noncomputable def uz(N:List Str)(vs:List V):St:=vs.map some++List.replicate (N.length-vs.length) none
noncomputable def HK(CX:Qu)(P:Program)(w:World)(K:PySem.W.Frag)(mg:Str->Option Value)(base:Heap)(N:List Str)(qual:Str)(scope:Scope)(f:Addr)(cd:Value)(A:Around)(outer:List Env)(s:Shared)(H:Hp)(E:XK):Cx where
 prog:=P
 w:=w
 K:=K
 mg:=mg
 base:=base
 A:=A.deeper (envOfC qual scope s.heap.objs.size f cd)
 N:=N
 s₀:=s
 H₀:=H
 env:=envOfC qual scope s.heap.objs.size f cd
 outer:=outer
 stack:=envOfC qual scope s.heap.objs.size f cd::outer
 ex:=[]
 calm:=true
 fn:=λ_=>true
 pn:=[]
 xe:=λe s'=>wpAny (model P w) (A.deeper (envOfC qual scope s.heap.objs.size f cd)) (leaving (envOfC qual scope s.heap.objs.size f cd) e) (λ_ s''=>CX outer H s E e s'') (λe' s''=>CX outer H s E e' s'') s'
theorem AN{sc:Scope}{n:Nat}{x:Str}(h:sc.names.lookup x=some .cell):∃c,(cellsFrom n sc.names []).lookup x=some c:=by have q:=PySem.W.cellsFrom_some sc.names n [] (.inl h);exact V1.mp q
theorem C6{CX:Qu}{P:Program}{w:World}{K:PySem.W.Frag}{mg:Str->Option Value}{base:Heap}{N ps:List Str}{qual:Str}{scope:Scope}{f:Addr}{cd:Value}{A:Around}{outer:List Env}{s s1:Shared}{H:Hp}{E:XK}{us:List Value}{vs:List V}
  (S:aE N ps scope) (hd:A.handled=none) (e0:FE P w K mg base A outer s H) (hl:vs.length=ps.length) (r:cK vs us)
  (x:InCallC s s.heap.objs.size (bindL (envOfC qual scope s.heap.objs.size f cd).kindOf (ps.zip us) λ_=>none) (cellsFrom (s.heap.objs.size+1) scope.names []) (bindC (envOfC qual scope s.heap.objs.size f cd).kindOf (ps.zip us) λ_=>none) s1) :
  P7 (HK CX P w K mg base N qual scope f cd A outer s H E) [] (uz N vs) H s1:=by
 have hpl:ps.length<=N.length:=by have:=WG List.length S.pre;rw[Wa]at this;omega
 obtain⟨h1,tk,rfl,hk⟩:=x.done;have noA:∀b:Addr,b∉(HK CX P w K mg base N qual scope f cd A outer s H E).ex:=λb z=>absurd (show b∈([]:List Addr)from z) x_
 refine⟨⟨e0.mod,S.kind,rfl,rfl,US _,λy z c h1 h2=>?_,λy hy=>?_,λy c _ h=>?_,λ_=>hd,Around.frames_deeper e0.frames,.inr ⟨rfl,rfl⟩,λb z=>absurd z (noA b),e0.bs,e0.bsz,λb _ _=>noA b,λb z=>absurd z (noA b),e0.funs,e0.frf,e0.tbs⟩,
  rfl,e0.bare,Un.kept hk,⟨_,x.toInCall.ns,λi y v h1 h2 h3=>?_⟩,λy c h=>⟨_,x.cell y c h⟩,e0.hok.fresh (US _),λy c h=>?_,λp hp=>absurd (show p∈([]:List (Addr×Obj))from hp) x_,e0.hok.kept hk,?_⟩
 . exact name_of_addr x.apart (VY h1) (VY h2)
 .
  have hy:scope.names.lookup y=some .cell∨scope.names.lookup y=some .free:=hy;rcases hy with hy|hy
  . exact AN hy
  . exact absurd rfl (S.nofree _ (VY hy))
 . exact WJ (x.above y c (VY h))
 .
  have hi:i<vs.length:=by
   unfold uz at h2;by_cases hi:i<vs.length
   . exact hi
   . rw[Vb (by simpa using hi)]at h2;rw[List.getElem?_replicate]at h2;split at h2<;>cases h2
  have ha:vs[i]?=some v:=by
   unfold uz at h2;rw[U9 (by simpa using hi),UU]at h2
   cases e:vs[i]? with
   |none=>rw[e]at h2;cases h2
   |some a=>rw[e]at h2;cases h2;rfl
  obtain⟨u,hu,rv⟩:=r.get ha;have hp:ps[i]?=some y:=by rw[<- S.pre,List.getElem?_take_of_lt xL];exact h1
  have ndP:ps.Nodup:=by rw[<- S.pre];exact S.nd.sublist (List.take_sublist _ _)
  refine⟨u,rv,?_⟩;rcases S.par y (We hp)with k|k
  . exact .inl ⟨k,xo ndP hp hu k⟩
  . obtain⟨c,e⟩:=AN (n:=s.heap.objs.size+1) k;refine .inr ⟨.inl k,c,e,?_⟩;have q:=x.cell y c e;rw[xq ndP hp hu (by show scope.names.lookup y≠_;rw[k];decide)]at q;exact q
 . exact .inl (e0.hok.fresh (WJ (x.above y c (VY h))))
 . unfold uz;show _=N.length;rw[Vk,UN,List.length_replicate];omega
theorem Lu{CX:Qu}{P:Program}{w:World}{K:PySem.W.Frag}{mg:Str->Option Value}{base:Heap}{k:Nat}{f:Addr}{name qual:Str}{params:Arguments}{body:List Stmt}{scope:Scope}{dV kV doc pm cdv ct oc:Value}{an od:Option Addr}
  {osl:Array (Option Value)} {N ps:List Str} {sp:Sp} (lk:K.lookup f=some ⟨oc,od,.func (PySem.W.fnOf name qual params body scope dV kV doc pm an cdv ct),osl⟩) (hcd:PySem.W.codeIn K cdv qual=true) (S:aE N ps scope)
  (len:∀vs H Q E,sp vs H Q E->vs.length=ps.length)
  (hbody:∀(A:Around)(outer:List Env)(s:Shared)(H:Hp)(vs:List V)(Q:VK)(E:XK),mv k (A.deeper (envOfC qual scope s.heap.objs.size f cdv))->sp vs H Q E ->
   ∃t,Qa (HK CX P w K mg base N qual scope f cdv A outer s H E) body t/\t {nx:=λ_ H'=>Q .non H',rt:=Q} (uz N vs) H) :
  FnOk P w K mg base CX (k+1) f (PySem.W.fnOf name qual params body scope dV kV doc pm an cdv ct) ps sp:=by
 refine⟨len,λA outer s H args us vs Q E hr e0 hb r hsp=>?_⟩;have hl:=len _ _ _ _ hsp;have KX:K.In s.heap:=e0.mod.kin.keeps λb o e=>(e0.bs b o e).1;have lim:s.heap.NoLimit:=e0.mod.nolimit.keeps λb o e=>(e0.bs b o e).1
 have hkind:∀y∈ps.zip us,scope.names.lookup y.1=some .local∨(scope.names.lookup y.1=some .cell/\((cellsFrom (s.heap.objs.size+1) scope.names []).lookup y.1).isSome=true):=fun⟨n,v⟩ hy=>by
  rcases S.par n (List.of_mem_zip hy).1 with q|q
  . exact .inl q
  . exact .inr ⟨q,PySem.W.cellsFrom_some _ _ _ (.inl q)⟩
 refine codeAny_call_function hr.depth (KX _ _ lk) rfl S.co S.gen rfl (PySem.W.codeRec_of KX hcd) (hb _ _ _ _ ?_);refine wpAny_newFunctionEnv_cells S.kind hkind λenv he s1 x=>?_;subst he;refine⟨lim.keeps x.toInCall.keep,codeAny_func ?_⟩;obtain⟨t,ht,hq⟩:=hbody A outer s H vs Q E (hr.deeper _) hsp;have I:P7 (HK CX P w K mg base N qual scope f cdv A outer s H E) [] (uz N vs) H s1:=C6 S hr.hd e0 hl r x;refine V7 (ht [] s1 (uz N vs) H _ I hq) (λfl s' hs=>?_) λe s' hs=>hs
 have Qd:∀{σ':St}{H':Hp}{v:V}{u:Value},P7 (HK CX P w K mg base N qual scope f cdv A outer s H E) [] σ' H' s'->cq v u->Q v H'->CE outer P w H s Q u s' :=
  λ{σ' H' v u} J rv q=>⟨v,H',J.os,J.bare,J.base,J.hok,rv,q⟩
 cases fl with
 | ret u =>
  obtain⟨v,σ',H',J,rv,q⟩:=hs;exact Qd J rv q
 | next =>
  obtain⟨σ',H',J,q⟩:=hs;exact Qd (v:=V.non) (u:=Value.none) J rfl q
 | brk =>
  obtain⟨_,_,_,q⟩:=hs;exact False.elim q
 | cont =>
  obtain⟨_,_,_,q⟩:=hs;exact False.elim q
section
variable{X:Cx}{x:Str}{p pos:Pos}{e:Expr}{es:List Expr}{t:TA}{id:String}{r:List V->Hp->VK->Prop}
def Qv(r:List V->Hp->VK->Prop)(t:TA):TE:=λσ H Q=>t σ H λvs H1=>r vs H1 Q
theorem AO(hc:kG X (.builtin id) r)(hg:Gl X x)(hm:X.mg x=none)(hv:bootBuiltins x=some (.builtin id))(ha:PA X (e::es) t) (hn:x≠"__name__":=by decide) (hdb:(x == ("__debug__" : Str))=false:=by decide)
  (he:starEach (e::es) X.env=(false,eval e X.env)::starEach es X.env:=by rfl) (hpl:(backTo pos (starEach es X.env)).any (·.1)=false:=by rfl):PE X (.Call (.Name x p) (e::es) [] pos) (Qv r t):=by
 intro ab s σ H Q I h;refine Ws (oI I hg hm hv ?_ hn hdb);exact PyProof.Rows.callWith_builtin1 (Qb (ha pos ab s σ H _ I h) λus s1 ⟨vs,H1,I1,r1,q1⟩=>hc ab s1 σ H1 vs us Q I1 r1 q1) he hpl
end
end L2
namespace HT
open PySem PyProof.Rows
section
variable{prog:Program}{w:World}{A:Around}{E:Value->Shared->Prop}{s:Shared}
noncomputable def sIx(n d:Nat):Option Int->Nat
 |none=>d
 |some v=>if v<0 then(v+(n:Int)).toNat else min v.toNat n
theorem Lv(n d:Nat)(hd:d<=n)(o:Option Int):sIx n d o<=n:=by
 cases o with
 |none=>exact hd
 | some v =>
  show(if v<0 then(v+(n:Int)).toNat else min v.toNat n)<=n
  by_cases hv:v<0
  . rw[if_pos hv];omega
  . rw[if_neg hv];exact Nat.min_le_right _ _
theorem C7(v:Int)(n d:Nat):(if v<0 then max (v+(n:Int)) 0 else min v (n:Int))=((sIx n d (some v):Nat):Int):=by
 show(if v<0 then max (v+(n:Int)) 0 else min v (n:Int))=(((if v<0 then(v+(n:Int)).toNat else min v.toNat n):Nat):Int)
 by_cases hv:v<0
 . simp only[if_pos hv];omega
 . simp only[if_neg hv];omega
theorem BV(lo hi:Option Int)(n:Nat):Builtin.Slice.sliceAdjust lo hi 1 (n:Int)=(((sIx n 0 lo:Nat):Int),((sIx n n hi:Nat):Int)):=by
 have h1:¬((1:Int)<0):=by omega
 unfold Builtin.Slice.sliceAdjust;simp only[h1,Wv];refine Prod.ext ?_ ?_
 .
  cases lo with
  |none=>rfl
  |some v=>exact C7 v n 0
 .
  cases hi with
  |none=>rfl
  |some v=>exact C7 v n n
theorem BW(i j:Nat):Builtin.Slice.slicePlaces (i:Int) (j:Int) 1=j-i:=by
 unfold Builtin.Slice.slicePlaces;have h1:(1:Int) > 0:=by omega
 simp only[h1,Ww,Int.ediv_one];split<;>omega
theorem u3{v:Value}{o:Option Int}{Q:Option Int->Shared->Prop}(p:IsPart v o)(h:Q o s):wpAny (model prog w) A (Builtin.Slice.slicePartIndex v) Q E s:=by
 cases p with
 |none=>exact slicePart_none h
 |int i t=>exact slicePart_int h
theorem rj{sl:Addr}{vl vu:Value}{lo hi:Option Int}{n:Nat}{Q:Int×Int×Nat->Shared->Prop}(hs:s.heap.IsSliceOf sl vl vu .none)(pl:IsPart vl lo)(pu:IsPart vu hi)
  (h:Q (((sIx n 0 lo:Nat):Int),1,sIx n n hi-sIx n 0 lo) s):wpAny (model prog w) A (Builtin.Slice.sliceApplied (.ref sl) (pure (n:Int))) Q E s:=by
 obtain⟨os,hos,hcs,hds⟩:=id hs;unfold Builtin.Slice.sliceApplied Builtin.Slice.sliceFields;refine UL (UL (wpAny_field hos hds (x:=vl) rfl (UL (wpAny_field hos hds (x:=vu) rfl (UL (wpAny_field hos hds (x:=.none) rfl (U0 ?_)))))));refine UL (slicePart_none ?_)
 show wpAny _ _ (if((1:Int) == 0)=true then _ else _) _ _ s
 rw[if_neg (by decide)];refine UL (u3 pl (UL (u3 pu (UL (U0 ?_)))))
 show wpAny _ _ (match Builtin.Slice.sliceAdjust lo hi 1 (n:Int)with|(lo,hi)=>pure (lo,(1:Int),Builtin.Slice.slicePlaces lo hi 1)) _ _ s
 rw[BV lo hi n];show wpAny _ _ (pure (((sIx n 0 lo:Nat):Int),(1:Int),Builtin.Slice.slicePlaces ((sIx n 0 lo:Nat):Int) ((sIx n n hi:Nat):Int) 1)) _ _ s;rw[BW];exact U0 h
theorem FF(xs:Array Value)(i k:Nat):((List.range k).filterMap λ(m:Nat)=>xs[((i:Int)+(m:Int)*1).toNat]?).toArray=((xs.toList.drop i).take k).toArray:=by
 have e:(λ(m:Nat)=>xs[((i:Int)+(m:Int)*1).toNat]?)=λm=>xs[i+m]?:=by
  funext m
  have:((i:Int)+(m:Int)*1).toNat=i+m:=by omega
  rw[this]
 rw[e];have:=pick_run xs i k;rw[List.filterMap_map]at this;have e2:((λx=>xs[x]?) ∘ λx=>i+x)=λm=>xs[i+m]?:=rfl;rw[e2]at this;rw[this]
theorem getItem_tuple_cut{t sl:Addr}{items:Array Value}{vl vu:Value}{lo hi:Option Int}{Q:Value->Shared->Prop}(ht:IsTup s.heap t items)(hs:s.heap.IsSliceOf sl vl vu .none)(pl:IsPart vl lo)(pu:IsPart vu hi)
  (hw:¬(sIx items.size 0 lo=0/\sIx items.size items.size hi=items.size))
  (h:Q (.ref s.heap.objs.size) {s with heap:=s.heap.push {cls:=.type "tuple",data:=.seq ((items.toList.drop (sIx items.size 0 lo)).take (sIx items.size items.size hi-sIx items.size 0 lo)).toArray} })
  (hsz:items.size<=sizeLine):wpAny (model prog w) A (getItem (.ref t) (.ref sl)) Q E s:=by
 have htake:sizeOk (.seq ((items.toList.drop (sIx items.size 0 lo)).take (sIx items.size items.size hi-sIx items.size 0 lo)).toArray):=by show((items.toList.drop (sIx items.size 0 lo)).take (sIx items.size items.size hi-sIx items.size 0 lo)).toArray.size<=sizeLine;rw[UZ,Wa,VV,Array.length_toList];omega
 have hj:sIx items.size items.size hi<=items.size:=Lv _ _ (US _) hi;obtain⟨os,hos,hcs,hds⟩:=id hs;have hTs:s.TypeIs (.ref sl) "slice":=⟨os,hos,hcs⟩;unfold getItem
 try with_reducible refine V0 ?_
 first|refine UL (U0 ?_)|skip
 refine UL (wpAny_sequenceKey ht.typeIs xp ?_)
 refine UL (wpAny_callSpecial?_slot (name:=Str.ofString "__getitem__") ht.typeIs PyProof.Rows.slot_tuple_getitem
  (wpAny_call_entry PyProof.Rows.slot_tuple_getitem ht.typeIs entry_tuple_getitem ?_ (args_tuple_getitem _ _)))
 show wpAny _ _ (Builtin.Tuple.tupleItemsOf (.ref t) >>= _) _ _ s;refine UL (tupleItemsOf_ ht ?_);refine UL (wpAny_typeOf hTs ?_);rw[if_pos (by decide)];refine UL (rj hs pl pu ?_);have hno:¬((((sIx items.size 0 lo:Nat):Int) == 0 && (1:Int) == 1 && (sIx items.size items.size hi-sIx items.size 0 lo) == items.size)=true):=by intro q;rw[UQ,UQ]at q;have q1:((sIx items.size 0 lo:Nat):Int)=0:=eq_of_beq q.1.1;have q2:sIx items.size items.size hi-sIx items.size 0 lo=items.size:=eq_of_beq q.2;exact hw ⟨xL,xL⟩
 show wpAny _ _ (if(((sIx items.size 0 lo:Nat):Int) == 0 && (1:Int) == 1 && (sIx items.size items.size hi-sIx items.size 0 lo) == items.size)=true then _ else _) _ _ s
 rw[if_neg hno,FF]
 first
  |exact UL (m:=Builtin.Tuple.tupleExact _) (WA (U0 ⟨_,rfl,U0 h⟩) htake)
  |exact UL (m:=Builtin.Tuple.tupleExact _) (WA (UL (U0 (U0 ⟨_,rfl,U0 h⟩))) htake)
  |exact UL (UL (m:=Builtin.Tuple.tupleExact _) (WA (U0 (U0 ⟨_,rfl,U0 h⟩)) htake))
  |exact UL (UL (m:=Builtin.Tuple.tupleExact _) (WA (U0 ⟨_,rfl,U0 h⟩) htake))
end
end HT
namespace L2
open PySem PySem.Spec PyProof.Rows
noncomputable abbrev TO:=St->Hp->(Option Int->Hp->Prop)->Prop
def PO(X:Cx)(e:Option Expr)(t:TO):Prop :=
 ∀(ab:List (Addr×Obj))(s:Shared)(σ:St)(H:Hp)(Q:Option Int->Hp->Prop),P7 X ab σ H s->t σ H Q ->
  wpAny (model X.prog X.w) X.A (evalPart e X.env) (λu s'=>∃o H',P7 X ab σ H' s'/\IsPart u o/\Q o H') X.xe s
noncomputable def IU:TO:=λ_ H Q=>Q none H
noncomputable def NQ(t:TE):TO:=λσ H Q=>t σ H λx H1=>∃i,x=.int i/\Q (some i) H1
section
variable{X:Cx}{e:Expr}{te:TE}{lo hi:Option Expr}{tl th:TO}{pos p2:Pos}
theorem IV:PO X none IU:=by intro ab s σ H Q I h;rw[evalPart_none];exact U0 ⟨none,H,I,.none,h⟩
theorem IW(h:PE X e te):PO X (some e) (NQ te):=by intro ab s σ H Q I hw;rw[evalPart_some];refine Qb (h ab s σ H _ I hw) λu s1 ⟨x,H1,I1,r1,q1⟩=>?_;obtain⟨i,rfl,q⟩:=q1;obtain⟨t,rfl⟩:=r1;exact⟨some i,H1,I1,.int i t,q⟩
def Qw(X:Cx)(r:V->Option Int->Option Int->Hp->VK->Prop):Prop :=
 ∀(ab:List (Addr×Obj))(s:Shared)(σ:St)(H:Hp)(x:V)(v vl vu:Value)(lo hi:Option Int)(sl:Addr)(Q:VK),P7 X ab σ H s->cq x v->s.heap.IsSliceOf sl vl vu .none->IsPart vl lo->IsPart vu hi->r x lo hi H Q ->
  ∃ T id,typeLookup (.type T) "__getitem__"=pure (some (.builtin id))/\s.TypeIs v T/\wpAny (model X.prog X.w) X.A (getItem v (.ref sl)) (EP X ab σ Q) X.xe s
theorem Qw.or{r r':V->Option Int->Option Int->Hp->VK->Prop}(h:Qw X r)(h':Qw X r'):Qw X (λx lo hi H Q=>r x lo hi H Q∨r' x lo hi H Q):=by
 intro ab s σ H x v vl vu lo hi sl Q I rx hs pl pu q;rcases q with q|q
 . exact h ab s σ H x v vl vu lo hi sl Q I rx hs pl pu q
 . exact h' ab s σ H x v vl vu lo hi sl Q I rx hs pl pu q
def Qx(r:V->Option Int->Option Int->Hp->VK->Prop)(te:TE)(tl th:TO):TE:=λσ H Q=>te σ H λx H1=>tl σ H1 λl H2=>th σ H2 λu H3=>r x l u H3 Q
theorem FG{r:V->Option Int->Option Int->Hp->VK->Prop}(hr:Qw X r)(he:PE X e te)(hl:PO X lo tl)(hu:PO X hi th):PE X (.Subscript e (.Slice lo hi none p2) pos) (Qx r te tl th):=by intro ab s σ H Q I h;refine Subscript_ (Qb (he ab s σ H _ I h) λv s1 ⟨x,H1,I1,r1,q1⟩=>?_);refine wpAny_Slice (Qb (hl ab s1 σ H1 _ I1 q1) λvl s2 ⟨l,H2,I2,pl,q2⟩=>Qb (hu ab s2 σ H2 _ I2 q2) λvu s3 ⟨u,H3,I3,pu,q3⟩=>?_);rw[evalPart_none];refine U0 ?_;have I4:P7 X ab σ H3 {s3 with heap:=s3.heap.push {cls:=.type "slice",data:=.fields #[vl,vu,.none] } }:=I3.kept (t':=s3.toks) λb ob q=>tu _ q;obtain⟨T,id,hT,ht,hg⟩:=hr ab {s3 with heap:=s3.heap.push {cls:=.type "slice",data:=.fields #[vl,vu,.none] } } σ H3 x v vl vu l u s3.heap.objs.size Q I4 r1 (Heap.IsSliceOf.new ..) pl pu q3;show wpAny (model X.prog X.w) X.A (subscriptTail e (.Slice lo hi none p2) v (.ref s3.heap.objs.size)) (EP X ab σ Q) X.xe {s3 with heap:=s3.heap.push {cls:=.type "slice",data:=.fields #[vl,vu,.none] } };exact tail_any (ops:=[.ref s3.heap.objs.size,v]) ht hT hg (by with_unfolding_all rfl)
noncomputable def HL(xs:List V)(lo hi:Option Int):List V:=(xs.drop (HT.sIx xs.length 0 lo)).take (HT.sIx xs.length xs.length hi-HT.sIx xs.length 0 lo)
theorem su(xs:List V)(lo hi:Option Int):(HL xs lo hi).length<=xs.length:=by unfold HL;rw[Wa,VV];omega
def Pj(K:PySem.W.Frag):V->Option Int->Option Int->Hp->VK->Prop:=λx lo hi H Q=>∃a xs,x=.ref a/\Qf K H a xs /\
 ¬(HT.sIx xs.length 0 lo=0/\HT.sIx xs.length xs.length hi=xs.length)/\∀p,H p=none->Q (.ref p) (PY H p (.tup (HL xs lo hi)))
theorem Lw:Qw X (Pj X.K):=by
 intro ab s σ H x v vl vu lo hi sl Q I rx hs pl pu h;obtain⟨a,xs,rfl,hx,hw,q⟩:=h;cases rx;obtain⟨its,r,ht,hz⟩:=I.tuple hx;have b0:its.toArray.size=xs.length:=by rw[UZ];exact r.length.symm
 refine⟨"tuple",_,PyProof.Rows.slot_tuple_getitem.lookup,ht.typeIs,?_⟩;refine HT.getItem_tuple_cut ht hs pl pu (by rw[b0];exact hw) ?_ (by rw[b0];exact hz);rw[b0];refine⟨.ref s.heap.objs.size,_,I.laid (t':=s.toks) (o:=.tup (HL xs lo hi)) (λb ob q=>tu _ q) (US _) ?_,rfl,q _ (I.hok.fresh (US _))⟩;exact⟨UT (su xs lo hi) hz,_,(r.drop (HT.sIx xs.length 0 lo)).take (HT.sIx xs.length xs.length hi-HT.sIx xs.length 0 lo),IsTup.new _ _⟩
end
noncomputable def Qy(n:Nat)(i:Int):Option Nat:=if 0<=i then(if i<n then some i.toNat else none)else if -(n:Int)<=i then some (i+n).toNat else none
noncomputable def Qz{α:Type}(xs:List α)(i:Int):Option α:=(Qy xs.length i).bind λj=>xs[j]?
theorem C8{n:Nat}{i:Int}{j:Nat}(h:Qy n i=some j):seqIndex? i n=some j/\j<n/\-(n:Int)<=i/\i<n:=by
 unfold Qy at h;by_cases h0:0<=i
 .
  rw[if_pos h0]at h;by_cases h1:i<n
  . rw[if_pos h1]at h;have e:i.toNat=j:=U6 h;exact⟨by rw[seqIndex_of h0 h1,e],xL,xL,h1⟩
  . rw[if_neg h1]at h;cases h
 .
  rw[if_neg h0]at h;by_cases h1 : -(n:Int)<=i
  . rw[if_pos h1]at h;have e:(i+n).toNat=j:=U6 h;exact⟨by rw[seqIndex_neg xL h1,e],xL,h1,xL⟩
  . rw[if_neg h1]at h;cases h
theorem ze{α:Type}{xs:List α}{i:Int}{v:α}(h:Qz xs i=some v):∃j,seqIndex? i xs.length=some j/\xs[j]?=some v/\j<xs.length/\-(xs.length:Int)<=i/\i<xs.length:=by
 unfold Qz at h
 cases e:Qy xs.length i with
 |none=>rw[e]at h;cases h
 | some j =>
  rw[e]at h;obtain⟨h1,h2,h3,h4⟩:=C8 e;exact⟨j,h1,h,h2,h3,h4⟩
theorem nB{α:Type}{xs:List α}{j:Nat}{v:α}(h:xs[j]?=some v):Qz xs (j:Int)=some v:=by
 have hj:j<xs.length:=(k5.mp h).1;have e:Qy xs.length (j:Int)=some j:=by unfold Qy;rw[if_pos (by omega),if_pos (by omega)];simp
 unfold Qz;rw[e];exact h
def vG(b:Expr):Prop:=∀o i,subscripted b false o i=operate [o,i] (getItem o i)
def QA(X:Cx)(r:R2):Prop :=
 ∀(value slice:Expr)(ab:List (Addr×Obj))(s:Shared)(σ:St)(H:Hp)(x y:V)(v u:Value)(Q:VK),P7 X ab σ H s->cq x v->cq y u->r x y H Q ->
  subscripted slice false v u=operate [v,u] (getItem v u)->wpAny (model X.prog X.w) X.A (subscriptTail value slice v u) (EP X ab σ Q) X.xe s
def QB(X:Cx)(id:String)(r:V->List V->Hp->VK->Prop):Prop :=
 ∀(ab:List (Addr×Obj))(s:Shared)(σ:St)(H:Hp)(x:V)(xs:List V)(v:Value)(us:List Value)(Q:VK),P7 X ab σ H s->cq x v->cK xs us->r x xs H Q ->
  wpAny (model X.prog X.w) X.A (call (.builtin id) (v::us)) (EP X ab σ Q) X.xe s
section
variable{X:Cx}{a b:Expr}{ta tb:TE}{pos:Pos}
theorem Lx{r:R2}(hr:QA X r)(ha:PE X a ta)(hb:PE X b tb)(hs:vG b):PE X (.Subscript a b pos) (Qo r ta tb):=by intro ab s σ H Q I h;exact Subscript_ (Pg ha hb I h λv u s2 x y H2 I2 rx ry q=>hr a b ab s2 σ H2 x y v u Q I2 rx ry q (hs _ _))
def Pk(K:PySem.W.Frag):R2:=λx y H Q=>∃p xs i v,x=.ref p/\y=.int i/\Qe K H p xs/\Qz xs i=some v/\Q v H
def Pl(K:PySem.W.Frag):R2:=λx y H Q=>∃p xs i v,x=.ref p/\y=.int i/\Qf K H p xs/\Qz xs i=some v/\Q v H
def Pn:R2:=λx y H Q=>∃z i c,x=.str z/\y=.int i/\z.length<=sizeLine/\Qz z.cps.toList i=some c/\Q (.str ⟨#[c]⟩) H
theorem zg:QA X (Pk X.K):=by
 intro value slice ab s σ H x y v u Q I rx ry h hs;obtain⟨p,xs,i,z,rfl,rfl,hq,he,q⟩:=h;cases rx;obtain⟨t,rfl⟩:=ry;obtain⟨its,r,pl,hz⟩:=I.list hq;obtain⟨j,h1,h2,h3,h4,h5⟩:=ze he;obtain⟨w,ew,rw'⟩:=r.get h2;have hl:=r.length;have hn:=u0;have Qd:EP X ab σ Q w s:=⟨z,H,I,rw',q⟩;by_cases h0:0<=i
 .
  have hj:i.toNat=j:=by rw[seqIndex_of h0 h5]at h1;exact U6 h1
  exact item_listR pl.isList h0 xL (by rw[hj];simpa using ew) Qd hs
 .
  have hj:(i+(its.toArray.size:Int)).toNat=j:=by rw[seqIndex_neg xL h4]at h1;rw[UZ,<- hl];exact U6 h1
  exact subscriptTail_builtinR (x:=w) pl.isList.typeIs slot_list_getitem.lookup
   (wpAny_getItem_list_neg (Q:=λr s'=>r=w/\EP X ab σ Q r s') pl.isList xL (by rw[UZ]<;>omega) xL (by rw[hj];simpa using ew) ⟨rfl,Qd⟩) hs
theorem HM:QA X (Pl X.K):=by
 intro value slice ab s σ H x y v u Q I rx ry h hs;obtain⟨p,xs,i,z,rfl,rfl,hq,he,q⟩:=h;cases rx;obtain⟨t,rfl⟩:=ry;obtain⟨its,r,pl,hz⟩:=I.tuple hq;obtain⟨j,h1,h2,h3,h4,h5⟩:=ze he;obtain⟨w,ew,rw'⟩:=r.get h2;have hl:=r.length;have hn:=u0;have Qd:EP X ab σ Q w s:=⟨z,H,I,rw',q⟩
 exact subscriptTail_builtinR (x:=w) pl.typeIs slot_tuple_getitem.lookup
  (getItem_tuple (j:=j) (Q:=λr s'=>r=w/\EP X ab σ Q r s') pl xL xL (by rw[UZ,<- hl];exact h1) (by simpa using ew) ⟨rfl,Qd⟩) hs
theorem Ly:QA X Pn:=by
 intro value slice ab s σ H x y v u Q I rx ry h hs;obtain⟨z,i,c,rfl,rfl,hz,he,q⟩:=h;obtain⟨t,rfl⟩:=rx;obtain⟨t',rfl⟩:=ry;obtain⟨j,h1,h2,h3,h4,h5⟩:=ze he;have hl:z.cps.toList.length=z.length:=by simp[Str.length]
 rw[hl]at h1 h4 h5;have hn:=u0
 exact tail_any (typeIs_str s z t) slot_str_getitem.lookup (getItem_str (c:=c) (by
  have e1:decide (i < -(2^63:Int))=false:=UM xL;have e2:decide (i≥2^63)=false:=UM xL
  rw[e1,e2,Bool.or_false]) (by rw[h1];simpa using h2) ⟨.str ⟨#[c]⟩,H,I.tok _,⟨_,rfl⟩,q⟩) hs
theorem BX(its:List Value)(n j:Nat)(u:Value):Obj.mapSeq (·.setIfInBounds j u) {cls:=.type "list",data:=.seq its.toArray n}={cls:=.type "list",data:=.seq (its.set j u).toArray n}:=by simp[Obj.mapSeq]
theorem P7.lst{ab:List (Addr×Obj)}{σ:St}{H:Hp}{s:Shared}{p:Addr}{xs:List V}(I:P7 X ab σ H s)(h:H p=some (.lst xs)) :
  ∃(its:List Value)(n:Nat),cK xs its/\s.heap.get? p=some {cls:=.type "list",data:=.seq its.toArray n}/\xs.length<=sizeLine:=by
 obtain⟨z,its,n,r,e⟩:=I.hok p _ h;exact⟨its,n,r,e,z⟩
theorem P7.lstUpd{ab:List (Addr×Obj)}{σ:St}{H:Hp}{s:Shared}{p:Addr}{xs ys:List V}{its its':List Value}{n n':Nat}{f:Obj->Obj}(I:P7 X ab σ H s)(h:H p=some (.lst xs))
  (ho:s.heap.get? p=some {cls:=.type "list",data:=.seq its.toArray n}) (hf:f {cls:=.type "list",data:=.seq its.toArray n}={cls:=.type "list",data:=.seq its'.toArray n' }) (r:cK ys its') (hz:ys.length<=sizeLine) (t:Nat) :
  P7 X ab σ (PY H p (.lst ys)) {s with heap:=s.heap.update p f,toks:=t}:=by
 have e:(s.heap.update p f).get? p=some {cls:=.type "list",data:=.seq its'.toArray n' }:=by rw[Heap.get?_update_self f ho (by rw[hf]<;>rfl),hf]
 refine I.write (x:=p) (e:=p) (by rw[h];trivial) (.inl rfl) (λb u hb q=>(Heap.get?_update_other _ _ (VB hb)).trans q) ⟨_,e⟩ ?_;exact⟨hz,its',n',r,e⟩
def NR:V->V->V->Hp->(Hp->Prop)->Prop:=λo i v H Q=>∃p xs k j,o=.ref p/\i=.int k/\H p=some (.lst xs)/\Qy xs.length k=some j/\Q (PY H p (.lst (xs.set j v)))
theorem FH:OM X NR:=by
 intro ab s σ H o i v ov iv u Q I ro ri rv h;obtain⟨p,xs,k,j,rfl,rfl,hp,hj,q⟩:=h;cases ro;obtain⟨t,rfl⟩:=ri;obtain⟨its,n,r,ho,hz⟩:=I.lst hp;obtain⟨h1,h2,h3,h4⟩:=C8 hj;have hl:=r.length;have hn:=u0
 have I':P7 X ab σ (PY H p (.lst (xs.set j v))) {s with heap:=s.heap.update p (Obj.mapSeq (·.setIfInBounds j u)) } :=
  I.lstUpd hp ho (BX its n j u) (r.set rv j) (by rw[VP];exact hz) s.toks
 by_cases h0:0<=k
 .
  have hk:k.toNat=j:=by rw[seqIndex_of h0 h4]at h1;exact U6 h1
  exact PySem.W.ki_setAt ho h0 xL (by rw[UZ,<- hl];exact h4) (by rw[hk];exact⟨_,I',q⟩)
 .
  have hk:(k+(its.toArray.size:Int)).toNat=j:=by rw[seqIndex_neg xL h3]at h1;rw[UZ,<- hl];exact U6 h1
  exact PySem.W.ki_setBack ho xL (by rw[UZ,<- hl];exact h3) xL (by rw[hk];exact⟨_,I',q⟩)
theorem xr(lo hi:Option Int)(n:Nat):(sliceBounds lo hi none n).1=((HT.sIx n 0 lo:Nat):Int)/\(sliceBounds lo hi none n).2.1=((HT.sIx n n hi:Nat):Int)/\(sliceBounds lo hi none n).2.2=1:=by
 refine⟨?_,?_,rfl⟩
 .
  cases lo with
  |none=>simp[sliceBounds,HT.sIx]
  | some i =>
   simp only[sliceBounds,HT.sIx,Option.getD_none,show(1:Int) > 0 by decide,Ww];by_cases h:i<0
   . simp only[h,Ww]<;>omega
   . simp only[h,Wv]<;>omega
 .
  cases hi with
  |none=>simp[sliceBounds,HT.sIx]
  | some i =>
   simp only[sliceBounds,HT.sIx,Option.getD_none,show(1:Int) > 0 by decide,Ww];by_cases h:i<0
   . simp only[h,Ww]<;>omega
   . simp only[h,Wv]<;>omega
theorem vH(its:List Value)(lo hi:Option Int):slicePick its.toArray lo hi none=((its.drop (HT.sIx its.length 0 lo)).take (HT.sIx its.length its.length hi-HT.sIx its.length 0 lo)).toArray:=by obtain⟨h1,h2,h3⟩:=xr lo hi its.toArray.size;unfold slicePick;rw[h1,h2,h3];simp only[sliceRange_one,pick_run,UZ]<;>rfl
def Po(K:PySem.W.Frag):V->Option Int->Option Int->Hp->VK->Prop:=λx lo hi H Q=>∃a xs,x=.ref a/\Qe K H a xs/\∀p,H p=none->Q (.ref p) (PY H p (.lst (HL xs lo hi)))
theorem IX:Qw X (Po X.K):=by intro ab s σ H x v vl vu lo hi sl Q I rx hs pl pu h;obtain⟨a,xs,rfl,hx,q⟩:=h;cases rx;obtain⟨its,r,ht,hz⟩:=I.list hx;have b0:=r.length;refine⟨"list",_,slot_list_getitem.lookup,ht.isList.typeIs,?_⟩;refine wpAny_getItem_list_slice ht.isList hs pl pu .none x_ ?_ (by rw[UZ]<;>omega);rw[vH,<- b0];refine⟨.ref s.heap.objs.size,_,I.laid (t':=s.toks) (o:=.lst (HL xs lo hi)) (λb ob q=>tu _ q) (US _) ?_,rfl,q _ (I.hok.fresh (US _))⟩;exact⟨UT (su xs lo hi) hz,_,0,(r.drop (HT.sIx xs.length 0 lo)).take (HT.sIx xs.length xs.length hi-HT.sIx xs.length 0 lo),U3 _ rfl⟩
noncomputable def uA:V->Bool
 |.non=>true
 |.bl _=>true
 |.int _=>true
 |.str _=>true
 |_=>false
noncomputable def QC:V->V->Bool
 |.non,.non=>true
 |.bl a,.bl b=>a == b
 |.bl a,.int b=>(if a then 1 else 0) == b
 |.int a,.bl b=>a == (if b then 1 else 0)
 |.int a,.int b=>a == b
 |.str a,.str b=>a == b
 |_,_=>false
theorem Lz{A:Around}{s:Shared}{y x:V}{u v:Value}(ry:cq y u)(rx:cq x v)(fy:uA y=true)(fx:uA x=true):SeqAt.EqAt A s u v (QC y x):=by
 cases y with
 | non =>
  cases ry
  cases x with
  |non=>cases rx;exact SeqAt.EqAt.same _
  |bl b=>cases rx;exact SeqAt.EqAt.none_bool b
  |int b=>obtain⟨t,rfl⟩:=rx;exact SeqAt.EqAt.none_int b t
  |str b=>obtain⟨t,rfl⟩:=rx;exact SeqAt.EqAt.none_str b t
  |_=>exact absurd (show false=true from fx) U4
 | bl a =>
  cases ry
  cases x with
  |non=>cases rx;exact SeqAt.EqAt.bool_none a
  |bl b=>cases rx;exact SeqAt.EqAt.bool_bool a b
  |int b=>obtain⟨t,rfl⟩:=rx;exact SeqAt.EqAt.bool_int a b t
  |str b=>obtain⟨t,rfl⟩:=rx;exact SeqAt.EqAt.bool_str a b t
  |_=>exact absurd (show false=true from fx) U4
 | int a =>
  obtain⟨t',rfl⟩:=ry
  cases x with
  |non=>cases rx;exact SeqAt.EqAt.int_none a t'
  |bl b=>cases rx;exact SeqAt.EqAt.int_bool a t' b
  |int b=>obtain⟨t,rfl⟩:=rx;exact SeqAt.EqAt.int_int a t' b t
  |str b=>obtain⟨t,rfl⟩:=rx;exact SeqAt.EqAt.int_str a t' b t
  |_=>exact absurd (show false=true from fx) U4
 | str a =>
  obtain⟨t',rfl⟩:=ry
  cases x with
  |non=>cases rx;exact SeqAt.EqAt.str_none a t'
  |bl b=>cases rx;exact SeqAt.EqAt.str_bool a t' b
  |int b=>obtain⟨t,rfl⟩:=rx;exact SeqAt.EqAt.str_int a t' b t
  |str b=>obtain⟨t,rfl⟩:=rx;exact SeqAt.EqAt.str_str a t' b t
  |_=>exact absurd (show false=true from fx) U4
 |_=>exact absurd (show false=true from fy) U4
noncomputable def QD(x:V)(u:Value):Bool:=match u with
 |.none=>QC .non x
 |.bool b=>QC (.bl b) x
 |.int i _=>QC (.int i) x
 |.str z _=>QC (.str z) x
 |_=>false
theorem HN{x y:V}{u:Value}(r:cq y u)(f:uA y=true):QD x u=QC y x:=by
 cases y with
 |non=>cases r;rfl
 |bl b=>cases r;rfl
 |int i=>obtain⟨t,rfl⟩:=r;rfl
 |str z=>obtain⟨t,rfl⟩:=r;rfl
 |_=>exact absurd (show false=true from f) U4
theorem sx{x:V}:∀{xs:List V}{us:List Value},cK xs us->xs.all uA=true->us.any (QD x)=xs.any λy=>QC y x
 |_,_,.nil,_=>rfl
 | y::xs,u::us,.cons r t,f=>by rw[Wm,UQ]at f;rw[Wc,Wc,HN r f.1,sx t f.2]
theorem oJ{A:Around}{s:Shared}{x:V}{v:Value}(rx:cq x v)(fx:uA x=true):∀{xs:List V}{us:List Value},cK xs us->xs.all uA=true->∀u∈us,SeqAt.EqAt A s u v (QD x u)
 |_,_,.nil,_=>λu hu=>by cases hu
 | y::xs,u::us,.cons r t,f=>λu' hu=>by
  rw[Wm,UQ]at f;rcases UV.mp hu with rfl|hu
  . rw[HN r f.1];exact Lz r rx f.1 fx
  . exact oJ rx fx t f.2 u' hu
noncomputable def QE(x:V)(xs:List V):Bool:=xs.any λy=>QC y x
def QF(K:PySem.W.Frag)(neg:Bool):R2:=λx y H Q=>∃p xs,y=.ref p/\(Qe K H p xs∨Qf K H p xs)/\uA x=true/\xs.all uA=true/\Q (.bl (if neg then !QE x xs else QE x xs)) H
theorem C9:Qm X (compareOp .In) (QF X.K false):=by
 intro ab s σ H x y v u Q I rx ry h;obtain⟨p,xs,rfl,hq,fx,fs,q⟩:=h;cases ry;rcases hq with hq|hq
 . obtain⟨its,r,pl,hz⟩:=I.list hq;refine SeqAt.in_listAt (QD x) pl.isList (λw hw=>oJ rx fx r fs w (by simpa using hw)) ⟨.bl _,H,I,rfl,?_⟩;rw[show its.toArray.any (QD x)=its.any (QD x) by simp,sx r fs];exact q
 . obtain⟨its,r,pl,hz⟩:=I.tuple hq;refine SeqAt.in_tupleAt (QD x) pl (λw hw=>oJ rx fx r fs w (by simpa using hw)) ⟨.bl _,H,I,rfl,?_⟩;rw[show its.toArray.any (QD x)=its.any (QD x) by simp,sx r fs];exact q
theorem xt:Qm X (compareOp .NotIn) (QF X.K true):=by
 intro ab s σ H x y v u Q I rx ry h;obtain⟨p,xs,rfl,hq,fx,fs,q⟩:=h;cases ry;rcases hq with hq|hq
 . obtain⟨its,r,pl,hz⟩:=I.list hq;refine SeqAt.notIn_listAt (QD x) pl.isList (λw hw=>oJ rx fx r fs w (by simpa using hw)) ⟨.bl _,H,I,rfl,?_⟩;rw[show its.toArray.any (QD x)=its.any (QD x) by simp,sx r fs];exact q
 . obtain⟨its,r,pl,hz⟩:=I.tuple hq;refine SeqAt.notIn_tupleAt (QD x) pl (λw hw=>oJ rx fx r fs w (by simpa using hw)) ⟨.bl _,H,I,rfl,?_⟩;rw[show its.toArray.any (QD x)=its.any (QD x) by simp,sx r fs];exact q
theorem qH:kG X (.builtin "len") (λxs H Q=>∃ p ys,xs=[.ref p]/\(Qe X.K H p ys∨Qf X.K H p ys)/\Q (.int ys.length) H):=by
 intro ab s σ H xs us Q I r h;obtain⟨p,ys,rfl,hq,q⟩:=h;obtain⟨u,rfl,rx⟩:=sj r;cases rx;have hn:=u0;rcases hq with hq|hq
 . obtain⟨its,r',pl,hz⟩:=I.list hq;have b0:=r'.length;exact Calls.call_len_list pl.isList (by simp only[UZ]<;>omega) ⟨.int ys.length,H,I.tok _,⟨s.toks+1,by rw[UZ,b0]⟩,q⟩
 . obtain⟨its,r',pl,hz⟩:=I.tuple hq;have b0:=r'.length;exact len_tuple pl (by simp only[UZ]<;>omega) ⟨.int ys.length,H,I.tok _,⟨s.toks+1,by rw[UZ,b0]⟩,q⟩
theorem xu:kG X (.builtin "len") (λxs H Q=>∃ z,xs=[.str z]/\z.length<=sizeLine/\Q (.int z.length) H):=by intro ab s σ H xs us Q I r h;obtain⟨z,rfl,hz,q⟩:=h;obtain⟨u,rfl,t,rfl⟩:=sj r;have hn:=u0;exact len_str xL ⟨.int z.length,H,I.tok _,⟨_,rfl⟩,q⟩
theorem kG.or{f:Value}{r r':List V->Hp->VK->Prop}(h:kG X f r)(h':kG X f r'):kG X f (λxs H Q=>r xs H Q∨r' xs H Q):=by
 intro ab s σ H xs us Q I rs q;rcases q with q|q
 . exact h ab s σ H xs us Q I rs q
 . exact h' ab s σ H xs us Q I rs q
theorem xv:kG X (.type "list") (λxs H Q=>∃ p ys,xs=[.ref p]/\(Qe X.K H p ys∨Qf X.K H p ys)/\∀ l,H l=none->Q (.ref l) (PY H l (.lst ys))):=by
 intro ab s σ H xs us Q I r h;obtain⟨p,ys,rfl,hq,q⟩:=h;obtain⟨u,rfl,rx⟩:=sj r;cases rx
 have Qd:∀(its:List Value),cK ys its->ys.length<=sizeLine->∀(h':Heap)(c':Nat),(∀b o',s.heap.get? b=some o'->h'.get? b=some o') ->
   h'.get? s.heap.objs.size=some {cls:=.type "list",dict:=none,data:=.seq its.toArray c',slots:=#[] }->EP X ab σ Q (.ref s.heap.objs.size) {s with heap:=h' }:=λits r' hz h' c' kp e =>
  ⟨.ref s.heap.objs.size,_,I.laid (t':=s.toks) kp (US _) (show iH X.prog X.w _ h' _ (.lst ys)from⟨hz,its,c',r',e⟩),rfl,q _ (I.hok.fresh (US _))⟩
 rcases hq with hq|hq
 . obtain⟨its,r',pl,hz⟩:=I.list hq;have b0:=r'.length;obtain⟨o,ho,hc,n,hd⟩:=pl.isList;exact call_list_seq p (.inl rfl) ho hc hd (λh' c' kp e=>Qd its r' hz h' c' kp e) (by simp only[UZ]<;>omega)
 . obtain⟨its,r',pl,hz⟩:=I.tuple hq;have b0:=r'.length;obtain⟨o,ho,hc,n,hd⟩:=pl;exact call_list_seq p (.inr rfl) ho hc hd (λh' c' kp e=>Qd its r' hz h' c' kp e) (by simp only[UZ]<;>omega)
def QG(K:PySem.W.Frag)(T:String)(x:V)(H:Hp):Prop:=match x with
 |.str _=>T="str"
 |.int _=>T="int"
 | .ref p=>(T="list"/\∃ xs,Qe K H p xs)∨(T="tuple"/\∃ o,K.lookup p=some o/\o.cls=.type "tuple"/\o.dict=none) ∨
   (T="dict"/\((∃ kvs,H p=some (.dK kvs))∨∃ kvs,H p=some (.dT kvs)))∨(T="set"/\∃ S n,H p=some (.set S n))
 |_=>False
theorem HP{ab:List (Addr×Obj)}{σ:St}{H:Hp}{s:Shared}{T:String}{x:V}{v:Value}(I:P7 X ab σ H s)(r:cq x v)(ty:QG X.K T x H) :
  s.TypeIs v T/\∀a,v=.ref a->∃ob,s.heap.get? a=some ob/\ob.dict=none:=by
 cases x with
 | str z =>
  obtain⟨t,rfl⟩:=r;cases(show T="str" from ty);exact⟨typeIs_str s z t,λ_ e=>nomatch e⟩
 | int i =>
  obtain⟨t,rfl⟩:=r;cases(show T="int" from ty);exact⟨typeIs_int s i t,λ_ e=>nomatch e⟩
 | ref p =>
  cases r;rcases ty with⟨rfl,xs,hq⟩|⟨rfl,o,hk,hc,hd⟩|⟨rfl,hk⟩|⟨rfl,S,n,hk⟩
  . obtain⟨its,_,pl,_⟩:=I.list hq;refine⟨pl.isList.typeIs,λa e=>?_⟩;cases e;obtain⟨o,n,e,c,hd,_⟩:=pl;exact⟨o,e,hd⟩
  . refine⟨⟨o,I.kIn p o hk,hc⟩,λa e=>?_⟩;cases e;exact⟨o,I.kIn _ o hk,hd⟩
  .
   have z:∃o,s.heap.get? p=some o/\o.ExactDict:=by
    rcases hk with⟨kvs,hk⟩|⟨kvs,hk⟩
    . obtain⟨_,_,_,_,o,_,_,e,ex,_⟩:=I.hok p _ hk;exact⟨o,e,ex⟩
    . obtain⟨_,_,_,_,o,_,_,e,ex,_⟩:=I.hok p _ hk;exact⟨o,e,ex⟩
   obtain⟨o,e,ex⟩:=z;refine⟨⟨o,e,ex.1⟩,λa e2=>?_⟩;cases e2;exact⟨o,e,ex.2.1⟩
  . obtain⟨o,_,_,_,e,ex,_⟩:=I.hok p _ hk;refine⟨⟨o,e,ex.1⟩,λa e2=>?_⟩;cases e2;exact⟨o,e,ex.2.1⟩
 |_=>exact False.elim ty
def OR(K:PySem.W.Frag)(T:String)(r:V->List V->Hp->VK->Prop)(to:TE):TE:=λσ H Q=>to σ H λx H1=>QG K T x H1/\r x [] H1 Q
def QH(K:PySem.W.Frag)(T:String)(r:V->List V->Hp->VK->Prop)(to:TE)(t:TA):TE:=λσ H Q=>to σ H λx H1=>QG K T x H1/\t σ H1 λxs H2=>r x xs H2 Q
variable{o e:Expr}{es:List Expr}{to:TE}{t:TA}{name:Str}{apos cpos:Pos}{T id:String}{r:V->List V->Hp->VK->Prop}
theorem LA(pa:PlainAttrs T)(slot:Slot T name id) (hty:typeOf (.builtin id)=pure (.type "method_descriptor")) (hm:QB X id r) (ho:PE X o to)
  (hbase:attributeBase o name X.env (eval o X.env)=eval o X.env:=by rfl) (hline:(apos.endLine == cpos.line)=true:=by rfl):PE X (.Call (.Attribute o name apos) [] [] cpos) (OR X.K T r to):=by
 intro ab s σ H Q I h;refine wpAny_Call_method0_late hbase hline (Qb (ho ab s σ H _ I h) λv s1 ⟨x,H1,I1,r1,ty,q1⟩=>?_);obtain⟨h1,h2⟩:=HP I1 r1 ty;exact⟨T,id,pa,slot,hty,h1,h2,Calls.callWith_builtin rfl (PySem.evalArgs_none (hm ab s1 σ H1 x [] v [] Q I1 r1 .nil q1))⟩
theorem LC(pa:PlainAttrs T)(slot:Slot T name id) (hty:typeOf (.builtin id)=pure (.type "method_descriptor")) (hm:QB X id r) (ho:PE X o to) (ha:PA X (e::es) t)
  (hbase:attributeBase o name X.env (eval o X.env)=eval o X.env:=by rfl)
  (hfew:((backTo cpos (starEach (e::es) X.env)).all (λx=>!x.1) && (backToKw cpos (keywordEach [] X.env)).all (λx=>x.1.isSome)
   && decide ((e::es).length+([]:List Keyword).length+(if([]:List Keyword).isEmpty then 0 else 1)<30))=true:=by rfl)
  (hline:(apos.endLine == cpos.line)=true:=by rfl) (hs:starEach (e::es) X.env=(false,eval e X.env)::starEach es X.env:=by rfl) (hplain:(backTo cpos (starEach es X.env)).any (·.1)=false:=by rfl) :
  PE X (.Call (.Attribute o name apos) (e::es) [] cpos) (QH X.K T r to t):=by
 intro ab s σ H Q I h;refine wpAny_Call_method_late hbase hfew hline rfl (Qb (ho ab s σ H _ I h) λv s1 ⟨x,H1,I1,r1,ty,q1⟩=>?_);obtain⟨h1,h2⟩:=HP I1 r1 ty;refine⟨T,id,pa,slot,hty,h1,h2,?_⟩;have hA:=ha cpos ab s1 σ H1 _ I1 q1;rw[hs]at hA ⊢;refine Calls.callWith_builtin (by show(false ||(backTo cpos (starEach es X.env)).any (·.1))=false;rw[hplain]<;>rfl) (Calls.evalArgs_plain ?_);exact Qb hA λus s2 ⟨vs,H2,I2,r2,q2⟩=>hm ab s2 σ H2 x vs v us Q I2 r1 r2 q2
/- xs.append(e),list.index on a module's tuple .. are QB facts of 06m -/
end
def QI(X:Cx)(id:String)(r:V->List V->Hp->VK->Prop):Prop :=
 ∀(ab:List (Addr×Obj))(s:Shared)(σ:St)(H:Hp)(x:V)(xs:List V)(v:Value)(us:List Value)(Q:VK),P7 X ab σ H s->cq x v->cK xs us->r x xs H Q ->
  wpAny (model X.prog X.w) X.A (call (.builtin id) (v::us)) (EP X ab σ Q) X.xe s
theorem cK.one:∀{x:V}{us:List Value},cK [x] us->∃u,us=[u]/\cq x u
 |_,_,.cons r .nil=>⟨_,rfl,r⟩
theorem cK.two:∀{x y:V}{us:List Value},cK [x,y] us->∃u v,us=[u,v]/\cq x u/\cq y v:=by
 intro x y us h
 cases h with
 | cons r h =>
  cases h with
  | cons q h =>
   cases h;exact⟨_,_,rfl,r,q⟩
theorem cK.zero:∀{us:List Value},cK [] us->us=[]
 |_,.nil=>rfl
section
variable{X:Cx}{ab:List (Addr×Obj)}{σ:St}{H:Hp}{s:Shared}{l:Addr}{xs ys:List V}
theorem P7.lset{its its':List Value}{n:Nat}{f:Array Value->Array Value}{t':Nat}(I:P7 X ab σ H s)(hH:H l=some (.lst xs))
  (e:s.heap.get? l=some {cls:=.type "list",data:=.seq its.toArray n}) (hf:f its.toArray=its'.toArray) (hv:cK ys its') (hz:ys.length<=sizeLine) :
  P7 X ab σ (PY H l (.lst ys)) {s with heap:=s.heap.update l (Obj.mapSeq f),toks:=t' }:=by
 have q:=PySem.IsL.update e f;rw[hf]at q;refine I.write (x:=l) (e:=l) (by rw[hH];exact trivial) (.inl rfl) (λb' u hb hu=>(Heap.get?_update_other s.heap (Obj.mapSeq f) (VB hb)).trans hu) ⟨_,q⟩ ?_;exact⟨hz,its',_,hv,q⟩
theorem P7.lnew{its:List Value}{t':Nat}(I:P7 X ab σ H s)(hv:cK ys its)(hz:ys.length<=sizeLine) :
  P7 X ab σ (PY H s.heap.objs.size (.lst ys)) {s with heap:=s.heap.push {cls:=.type "list",data:=.seq its.toArray},toks:=t' } :=
 I.laid (λ_ _ q=>tu _ q) (US _) ⟨hz,its,0,hv,U3 _ rfl⟩
theorem P7.fresh(I:P7 X ab σ H s):H s.heap.objs.size=none:=I.hok.fresh (US _)
theorem P7.lstM(I:P7 X ab σ H s)(hH:H l=some (.lst xs)):xs.length<=sizeLine/\∃(its:List Value)(n:Nat),cK xs its/\xs.length=its.length/\s.heap.get? l=some {cls:=.type "list",data:=.seq its.toArray n}:=by obtain⟨z,its,n,r,e⟩:=I.hok l _ hH;exact⟨z,its,n,r,r.length,e⟩
end
section
variable{X:Cx}
def IY:V->List V->Hp->VK->Prop:=λx vs H Q=>∃l xs y,x=.ref l/\vs=[y]/\H l=some (.lst xs)/\xs.length<sizeLine/\Q .non (PY H l (.lst (xs++[y])))
theorem xw:QI X "list.append" IY:=by intro ab s σ H x vs v us Q I rx rv h;obtain⟨l,xs,y,rfl,rfl,hH,hz,q⟩:=h;cases rx;obtain⟨u,rfl,ru⟩:=rv.one;obtain⟨z,its,n,r,hl,e⟩:=I.lstM hH;refine call_meets F.slot_list_append ⟨_,e,rfl⟩ F.entry_list_append (F.args_list_append_2 _ _) (PySem.list_append l its.toArray n u (by rw[UZ];omega)) ⟨e,?_⟩;refine⟨.non,_,I.lset (its':=its++[u]) hH e x_ (r.append (.cons ru .nil)) ?_,rfl,q⟩;rw[Vk,List.length_singleton];omega
def PR:V->List V->Hp->VK->Prop:=λx vs H Q=>∃l xs y,x=.ref l/\vs=[]/\H l=some (.lst xs)/\xs[xs.length-1]?=some y/\Q y (PY H l (.lst xs.dropLast))
def LD:V->List V->Hp->VK->Prop:=λx vs H Q=>∃l xs,x=.ref l/\vs=[]/\H l=some (.lst xs)/\Q .non (PY H l (.lst []))
theorem FI:QI X "list.clear" LD:=by intro ab s σ H x vs v us Q I rx rv h;obtain⟨l,xs,rfl,rfl,hH,q⟩:=h;cases rx;have hus:=rv.zero;subst hus;obtain⟨z,its,n,r,hl,e⟩:=I.lstM hH;refine call_meets F.slot_list_clear ⟨_,e,rfl⟩ F.entry_list_clear (F.args_list_clear_1 _) (AutoSeq1.list_clear_list_0 l its.toArray n (by rw[UZ];omega)) ⟨e,?_⟩;exact⟨.non,_,I.lset (its':=[]) (ys:=[]) hH e rfl .nil (Vv _),rfl,q⟩
end
end L2
namespace Att
open PySem PySem.W PySem.Calls PyProof.Rows
theorem sy{P:Params}{h:Heap}:∀(ns:List Int)(vs:List Value),WellAll P h vs (ns.map WData.int)->IntsAre vs ns:=by
 intro ns
 induction ns with
 | nil =>
  intro vs w;rw[List.map_nil]at w;cases w;exact .nil
 | cons n ns ih =>
  intro vs w;rw[Ve]at w
  cases w with
  | cons a b =>
   cases a;exact .cons _ _ (ih _ b)
theorem Da{l:OpenLaw}{n:Nat}(hn:l.most=some n){P:Params}{h:Heap}{args:List WData}{vals:List Value}
  (hpre:l.row.toRowW.claim.pre args=true) (hwl:WellAll P h vals args) :
  ∃ a vs ns,vals=[Value.ref a]/\args=[WData.list (ns.map WData.int)]/\h.get? a=some {cls:=.type "list",data:=.seq vs.toArray}/\IntsAre vs ns/\ns.length<=n:=by
 have hsh:WShape.hasAll [] args [.list .int]=true:=(pre_splitW hpre).1;have hc:l.pre.holds [] {args:=args}=true:=(pre_splitW hpre).2;obtain⟨d,r,rfl,h1,h2⟩:=hasAllW_cons hsh;obtain rfl:=hasAllW_nil h2;obtain⟨xs,rfl,h3⟩:=hasW_list h1;obtain⟨ns,rfl⟩:=items_int h3
 have b0:ns.length<=n:=by
  unfold OpenLaw.pre at hc;have h4:(WTm.not (.lt (.lit (.int (n:Int))) (.len (.arg 0)))).holds [] {args:=[.list (ns.map .int)] }=true:=by have h4:=(holds_andW hc).1;rw[hn]at h4;exact h4
  have h5:=condW_of h4 (w_not (w_lt w_lit (w_len_list (w_arg rfl))));rw[UN]at h5;refine Nat.le_of_not_lt λq=>?_;have q':(n:Int)<((ns.length:Nat):Int):=by omega
  first
   |(rw[UX q']at h5;exact absurd h5 xp)
   |(simp at h5;omega)
 cases hwl with
 | cons w1 w2 =>
  cases w2
  cases w1 with
  |list ho hall=>exact⟨_,_,ns,rfl,rfl,ho,sy ns _ hall,b0⟩
theorem Dc(l:OpenLaw)(args:List WData):l.row.toRowW.claim.post args (.bool true) args=true :=
 postW_of (r:=l.row.toRowW) (X:=(true == true))
  (show WShape.has [] (.bool true) .bool=true by first|rfl|decide|simp[WShape.has,WShape.arms,WShape.armsAll])
  (show(WTm.eq .res (.lit (.bool true))).value [] {args:=args,res:=some (.bool true),after:=args}=some (.bool (true == true))from w_eq_bool (w_res rfl) w_lit) rfl
theorem attach_call{l:OpenLaw}{n:Nat}{q:Program}{loose:List Str}{XP:(Str->Option Value)->Heap->Prop}{YP:World->Heap->Prop}{d:DefRec}
  (hn:l.most=some n) (hdf:d.params.defaults=[])
  (call:∀(w:World)(s₀ s₁:Shared)(mg mb:Str->Option Value)(fa:Addr)(o:Obj)(pm cd doc:Value)(a:Addr)(vs:List Value)(ns:List Int),
   Ground q loose [] XP w s₀ mg mb s₁.heap->YP w s₁.heap ->
   s₁.heap.get? fa=some o->o.data=.func (docDef d.name d.params d.body d.scope pm cd doc)->s₁.heap.CodeRec cd d.name->mg d.name=some (.ref fa) ->
   s₁.heap.get? a=some {cls:=.type "list",data:=.seq vs.toArray}->IntsAre vs ns->ns.length<=n->s₁.gens=#[] ->
   codeAny (model l.prog w) callerA (.call (.ref fa) ⟨[.ref a],[]⟩) (λr s'=>r=.ok (.ret (.bool true))/\OldK s₁.heap s'.heap/\s'.os=s₁.os/\AllBare s'.gens) s₁) :
  WalkO q loose XP YP l.row.toRowW d [] (λf vs=>PySem.call f vs):=by
 intro w s₀ s₁ mg mb G Y fa o pm cd doc dV kV ho hd hcd hD hmg hg args vals as hpre hlay hrd hwl hlo;obtain rfl:dV=.none:=Dflts.none hD hdf;obtain rfl:kV=.none:=Dflts.noKw hD;obtain⟨a,vs,ns,rfl,rfl,hobj,hints,b0⟩:=Da hn hpre hwl;refine enter_call (codeAny_mono (call w s₀ s₁ mg mb fa o pm cd doc a vs ns G Y ho (fd_plain hd) hcd hmg hobj hints b0 hg) λr s' hq=>?_);obtain⟨rfl,h2,h3,h4⟩:=hq;exact⟨.inl ⟨.bool true,.bool true,[],rfl,λ_=>rfl,.bool true,Dc l _,λ_=>⟨List.Pairwise.nil,λ_ hm=>(nomatch hm)⟩⟩,h2,h3,h4⟩
section
noncomputable def noObjs(h:Heap):Heap:={h with objs:=#[] }
theorem noObjs_get(h:Heap)(b:Addr):(noObjs h).get? b=none:=by
 cases e:(noObjs h).get? b with
 |none=>rfl
 |some o=>exact absurd (UR e) (Nat.not_lt_zero _)
noncomputable def OS(h:Heap)(L d:Addr):List (Addr×Obj):=(List.range h.objs.size).filterMap λa=>if a=L∨a=d then none else(h.get? a).map λo=>(a,o)
end
end Att
namespace L2
open PySem PySem.Spec PyProof.Rows
theorem xx:∀{vs:List Value}{ns:List Int},IntsAre vs ns->cK (ns.map V.int) vs
 |_,_,.nil=>.nil
 |_,_,.cons n t h=>.cons ⟨t,rfl⟩ (xx h)
def Nx(H:Hp):Prop:=∀b,H b=none∨(∃o xs,H b=some (.frz o (.lst xs)))∨∃q,H b=some (.tbl q)
noncomputable def fV(K:PySem.W.Frag):List (Addr×Str):=lamNames.filterMap λx=>(PySem.W.tabIn K x).map λp=>(p.2,uZ x)
noncomputable def tabsOk(K:PySem.W.Frag):Bool:=decide ((fV K).map (·.1)).Nodup && (fV K).all λp=>(K.lookup p.1).isNone
theorem Dd{K:PySem.W.Frag}{P:Addr}{q:Str}(h:(P,q)∈fV K):∃x∈lamNames,∃c,PySem.W.tabIn K x=some (c,P)/\q=uZ x:=by
 obtain⟨x,hx,e⟩:=Wt.mp h
 cases z:PySem.W.tabIn K x with
 |none=>rw[z]at e;cases e
 |some p=>rw[z]at e;cases e;exact⟨x,hx,p.1,z,rfl⟩
theorem mG{α β:Type}[BEq α][LawfulBEq α]:∀{l:List (α×β)}{a:α}{b:β},l.lookup a=some b->(a,b)∈l
 |[],_,_,h=>nomatch h
 | (x,y)::r,a,b,h=>by
  rw[Vr]at h
  cases hb:a == x with
  |true=>rw[hb]at h;cases h;rw[eq_of_beq hb];exact .head _
  |false=>rw[hb]at h;exact .tail _ (mG h)
theorem kH{α β:Type}[BEq α][LawfulBEq α]:∀{l:List (α×β)}{a:α}{b:β},(l.map (·.1)).Nodup->(a,b)∈l->l.lookup a=some b
 |[],_,_,_,h=>nomatch h
 | (x,y)::r,a,b,nd,h=>by
  rw[Ve,Vf]at nd;rw[Vr];rcases UV.mp h with e|h
  . cases e;simp
  . have:a≠x:=λz=>nd.1 (z ▸ List.mem_map_of_mem (f:=(·.1)) h);rw[show(a == x)=false from beq_false_of_ne this];exact kH nd.2 h
theorem BY{K:PySem.W.Frag}{x:Str}{c P:Addr}(h:PySem.W.tabIn K x=some (c,P)):K.lookup c≠none:=by
 unfold PySem.W.tabIn at h;split at h
 .
  split at h
  .
   split at h
   .
    split at h
    .
     rename_i hco;split at h
     . cases h;intro z;rw[hco]at z;cases z
     . cases h
    . cases h
   . cases h
  . cases h
 . cases h
theorem FJ{P:Program}{w:World}{K:PySem.W.Frag}{mg mb:Str->Option Value}{CX:Qu}{k:Nat}{fa a:Addr}{fd:FuncData}{x:Str}{sp:Sp}{s₁:Shared}{vs:List Value}{ns:List Int}
  (KX:K.In s₁.heap) (hns:s₁.heap.Ns mainGlobals mg) (hb:s₁.heap.Ns builtinsNs mb) (hbb:∀ x:Str,x≠"__name__"->mb x=bootBuiltins x) (hlim:s₁.heap.NoLimit) (hsys:∃ mm,s₁.heap.Ns sysModules mm) (hbm:Le mg s₁.heap) (hto:tabsOk K=true)
  (htb:∀x∈lamNames,∀c P,PySem.W.tabIn K x=some (c,P)->PySem.W.CodeHd s₁.heap c P/\s₁.heap.get? P=some (PySem.W.tabObj #[])) (hg:s₁.gens=#[])
  (ha:s₁.heap.get? a=some {cls:=.type "list",data:=.seq vs.toArray}) (hi:IntsAre vs ns) (hl:ns.length<=sizeLine) (hr:mv k callerA)
  (F:∀base:Heap,K.In base->base.Ns mainGlobals mg->FnOk P w K mg base CX k fa fd [x] sp) (hbind:∀(s:Shared)(u:Value),BindsTo s fd ⟨[u],[]⟩ [(x,u)])
  (hsp:∀H:Hp,Nx H->Qe K H a (ns.map V.int)->sp [.ref a] H (λv _=>v=.bl true) λ_ _ _=>False)
  (hCX:∀H e s',CX [] H s₁ (λ_ _ _=>False) e s'->False) :
  codeAny (model P w) callerA (.call (.ref fa) ⟨[.ref a],[]⟩) (λr s'=>r=.ok (.ret (.bool true))/\OldK s₁.heap s'.heap/\s'.os=s₁.os/\AllBare s'.gens) s₁:=by
 have rv:=xx hi;have lenV:=hi.length;obtain⟨nd,kn⟩:=WC.mp hto;have nd:=Wj nd;have tabAt:∀{b:Addr}{q:Str},(fV K).lookup b=some q->PySem.isCodeTable s₁.heap b/\s₁.heap.get? b=some (PySem.W.tabObj #[])/\K.lookup b=none:=λ{b q} e=>by have hm:(b,q)∈fV K:=mG e;obtain⟨x,hx,c,e1,_⟩:=Dd hm;obtain⟨h1,h2⟩:=htb x hx c b e1;refine⟨(h1.tab h2).isCodeTable,h2,?_⟩;have:=VE.mp kn (b,q) hm;simpa using this
 have core:∀H:Hp,Nx H->Qe K H a (ns.map V.int)->PZ P w H s₁.heap->(∀b,H b≠none->b=a∨∃q,H b=some (.tbl q)/\(fV K).lookup b=some q)->(∀b,H b≠none->K.lookup b=none)->P2 K H ->
   codeAny (model P w) callerA (.call (.ref fa) ⟨[.ref a],[]⟩) (λr s'=>r=.ok (.ret (.bool true))/\OldK s₁.heap s'.heap/\s'.os=s₁.os/\AllBare s'.gens) s₁:=by
  intro H hO hS hok hA hK hT;have base_of:∀{b:Addr}{o:Obj},s₁.heap.get? b=some o->H b=none->(Fu s₁.heap H).get? b=some o:=λe n=>Fv e n
  have noB:∀{b:Addr}{o:Obj},s₁.heap.get? b=some o->(∀us n,o.data≠.seq us n)->(∀us,o.data≠.fields us)->H b=none:=λ{b o} e d1 d2=>by
   cases q:H b with
   |none=>rfl
   | some u =>
    rcases hA b (by rw[q];simp)with e' | ⟨z,_,e'⟩
    . subst e';rw[ha]at e;cases e;exact absurd rfl (d1 _ _)
    . rw[(tabAt e').2.1]at e;cases e;exact absurd rfl (d2 _)
  have noA:∀{b:Addr}{o:Obj}{es:Array DictEntry}{ep:Nat},s₁.heap.get? b=some o->o.data=.dict es ep->H b=none:=λ{b o es ep} e d =>
   noB e (λus n z=>by rw[d]at z;cases z) λus z=>by rw[d]at z;cases z
  have nsK:∀{b:Addr}{m:Str->Option Value},s₁.heap.Ns b m->(Fu s₁.heap H).Ns b m:=λ{b m} ⟨o,es,ep,e,d,r⟩=>⟨o,es,ep,base_of e (noA e d),d,r⟩
  have hKb:K.In (Fu s₁.heap H):=λb o e=>base_of (KX b o e) (by
   cases q:H b with
   |none=>rfl
   |some u=>rw[hK b (by rw[q];simp)]at e;cases e)
  have hM:Mod K mg (Fu s₁.heap H):=⟨hKb,nsK hns,⟨mb,nsK hb,hbb⟩,let ⟨mc,h1,h2⟩:=hlim;⟨mc,nsK h1,h2⟩,let ⟨mm,h1⟩:=hsys;⟨mm,nsK h1⟩,by
   obtain⟨bm,ob,b1,b2,b3,b4,b5,b6⟩:=hbm
   exact⟨bm,ob,b1,b2,base_of b3 (noB b3 (λus n z=>by rw[b6]at z;cases z) λus z=>by rw[b6]at z;cases z),b4,b5,b6⟩,λx hx c P e=>by
   obtain⟨⟨o,vs,file,tf,flags,tg,QJ,text,tt,e1,r⟩,_⟩:=htb x hx c P e
   exact⟨o,vs,file,tf,flags,tg,QJ,text,tt,base_of e1 (by
    cases q:H c with
    |none=>rfl
    |some u=>exact absurd (hK c (by rw[q];simp)) (BY e)),r⟩⟩
  have e0:FE P w K mg (Fu s₁.heap H) callerA [] s₁ H:=⟨rfl,hM,λb o e=>IL e,Nat.le_of_eq (CQ _ _),trivial,λb hb=>absurd (show b∈([]:List Addr)from hb) x_,hok,.of_eq hg,hT⟩;refine codeAny_mono ((F _ hKb (nsK hns)).run callerA [] s₁ H ⟨[.ref a],[]⟩ [.ref a] [.ref a] _ _ hr e0 (hbind s₁ (.ref a)) (.cons rfl .nil) (hsp H hO hS)) λr s' h=>?_
  cases r with
  |error e=>exact(hCX H e s' h).elim
  | ok fl =>
   cases fl with
   |next=>exact False.elim h
   |brk=>exact False.elim h
   |cont=>exact False.elim h
   | ret u =>
    obtain⟨v,H',os,bare,un,hok',r',q⟩:=h;have q':v=.bl true:=q;subst q';obtain rfl:u=Value.bool true:=r'
    have Qd:∀b o,s₁.heap.get? b=some o->s'.heap.get? b=some o∨(PySem.isCodeTable s₁.heap b/\o=PySem.W.tabObj #[]/\∃ps,s'.heap.get? b=some (PySem.W.tabObj ps)):=λb o e=>by
     cases q:H b with
     |none=>exact .inl (un.keep b o e q (by intro z;exact absurd (show b∈([]:List Addr)from z) x_) x_)
     | some u =>
      rcases hO b with z|⟨ob,xs,z⟩|⟨t,z⟩
      . rw[q]at z;cases z
      . have z2:=un.frzs b ob _ z;obtain⟨e1,_⟩:=hok b _ z;obtain⟨e2,_⟩:=hok' b _ z2;rw[e]at e1;cases e1;exact .inl e2
      .
       rcases hA b (by rw[q];simp)with e' | ⟨t2,_,e'⟩
       . subst e';obtain⟨ps,e1,_⟩:=hok b _ z;rw[ha]at e1;cases e1
       . obtain⟨ps,e2,_⟩:=hok' b _ (un.tbls b _ z);obtain⟨t1,t2,_⟩:=tabAt e';rw[e]at t2;cases t2;exact .inr ⟨t1,rfl,ps,e2⟩
    refine⟨rfl,⟨λb o e=>?_,λb o e=>?_⟩,os,bare⟩
    .
     rcases Qd b o e with z|⟨t,rfl,ps,z⟩
     . exact .inl z
     . exact .inr (.inl ⟨t,rfl,#[],ps,rfl,by rw[Array.empty_append];exact z⟩)
    .
     rcases Qd b o e with z|⟨t,_,ps,z⟩
     . exact⟨o,z⟩
     . exact⟨_,z⟩
 have tbsOf:∀{H:Hp},(∀b q,(fV K).lookup b=some q->H b=some (.tbl q))->P2 K H:=λ{H} h x hx c P e=>h P _ (kH nd (Wt.mpr ⟨x,hx,by rw[e];rfl⟩));have okT:∀{H:Hp}{b:Addr}{q:Str},(fV K).lookup b=some q->iH P w H s₁.heap b (.tbl q):=λ{H b q} e=>⟨#[],(tabAt e).2.1,trivial,λpos cv z=>by simp[codeAmong]at z⟩;have na:∀q,(fV K).lookup a≠some q:=λq z=>by have:=(tabAt z).2.1;rw[ha]at this;cases this
 cases hk:K.lookup a with
 | some o =>
  have e:=KX a o hk;rw[ha]at e;cases e;refine core (λb=>((fV K).lookup b).map .tbl) (λb=>?_) (.inr ⟨_,vs.toArray,_,hk,rfl,rfl,rfl,by rw[UZ,lenV];exact hl,by simpa using rv⟩) (λb u z=>?_) (λb z=>?_) (λb z=>?_) (tbsOf λb q e=>by show Option.map _ _=_;rw[e];rfl)
  .
   show Option.map HO.tbl ((fV K).lookup b)=none∨_
   cases q:(fV K).lookup b with
   |none=>exact .inl rfl
   |some t=>exact .inr (.inr ⟨t,by show Option.map _ _=_;rw[q];rfl⟩)
  .
   have z':Option.map HO.tbl ((fV K).lookup b)=some u:=z
   cases q:(fV K).lookup b with
   |none=>rw[q]at z';cases z'
   |some t=>rw[q]at z';cases z';exact okT q
  .
   have z':Option.map HO.tbl ((fV K).lookup b)≠none:=z
   cases q:(fV K).lookup b with
   |none=>rw[q]at z';exact absurd rfl z'
   |some t=>exact .inr ⟨t,rfl,rfl⟩
  .
   have z':Option.map HO.tbl ((fV K).lookup b)≠none:=z
   cases q:(fV K).lookup b with
   |none=>rw[q]at z';exact absurd rfl z'
   |some t=>exact(tabAt q).2.2
 | none =>
  have at_a:∀ b,(if b=a then some (HO.frz {cls:=.type "list",data:=.seq vs.toArray} (.lst (ns.map V.int)))else((fV K).lookup b).map .tbl)≠none->b=a∨∃ q,(fV K).lookup b=some q:=λb z=>by
   by_cases hb:b=a
   . exact .inl hb
   .
    rw[if_neg hb]at z
    cases q:(fV K).lookup b with
    |none=>rw[q]at z;exact absurd rfl z
    |some t=>exact .inr ⟨t,rfl⟩
  have tabA:∀ b q,(fV K).lookup b=some q->(if b=a then some (HO.frz {cls:=.type "list",data:=.seq vs.toArray} (.lst (ns.map V.int)))else((fV K).lookup b).map .tbl)=some (.tbl q):=λb q e=>by rw[if_neg (λ(z:b=a)=>na q (by rw[<- z];exact e)),e];rfl
  refine core (λb=>if b=a then some (.frz {cls:=.type "list",data:=.seq vs.toArray} (.lst (ns.map V.int)))else((fV K).lookup b).map .tbl) (λb=>?_) (.inl (.inr ⟨{cls:=.type "list",data:=.seq vs.toArray},if_pos rfl⟩)) (λb u z=>?_) (λb z=>?_) (λb z=>?_) (tbsOf λb q e=>tabA b q e)
  .
   by_cases hb:b=a
   . exact .inr (.inl ⟨_,_,if_pos hb⟩)
   .
    cases q:(fV K).lookup b with
    |none=>exact .inl (by show ite _ _ _=_;rw[if_neg hb,q];rfl)
    |some t=>exact .inr (.inr ⟨t,tabA b t q⟩)
  .
   by_cases hb:b=a
   . have z':=(if_pos hb).symm.trans z;cases z';subst hb;exact⟨ha,by rw[UN];exact hl,vs,_,rv,ha⟩
   .
    have z':=(if_neg hb).symm.trans z
    cases q:(fV K).lookup b with
    |none=>rw[q]at z';cases z'
    |some t=>rw[q]at z';cases z';exact okT q
  .
   rcases at_a b z with e|⟨q,e⟩
   . exact .inl e
   . exact .inr ⟨q,tabA b q e,e⟩
  .
   rcases at_a b z with e|⟨q,e⟩
   . rw[e];exact hk
   . exact(tabAt e).2.2
theorem walk_of{l:PySem.W.OpenLaw}{n k:Nat}{q:Program}{loose:List Str}{XP:(Str->Option Value)->Heap->Prop}{YP:World->Heap->Prop}{d:DefRec}{K:Params->PySem.W.Frag}{CX:World->Qu}{sp:World->Sp}{x:Str}
  (hn:l.most=some n) (hq:importsNone q=true) (hn2:n<=sizeLine) (hdf:d.params.defaults=[]) (hr:mv k callerA)
  (hY:∀(w:World)(h:Heap),YP w h->(K w.params).In h) (hto:∀w:World,tabsOk (K w.params)=true) (hrc:∀(w:World),∀x∈lamNames,PySem.W.tabIn (K w.params) x=none∨((recsOf q).find? λe=>e.name == x).isSome=true)
  (F:∀(w:World)(mg:Str->Option Value)(fa:Addr)(h:Heap),(K w.params).In h->h.Ns mainGlobals mg->mg d.name=some (.ref fa) ->
   ∃fd:FuncData,(∀(s:Shared)(u:Value),BindsTo s fd ⟨[u],[]⟩ [(x,u)]) /\
    ∀base:Heap,(K w.params).In base->base.Ns mainGlobals mg->FnOk l.prog w (K w.params) mg base (CX w) k fa fd [x] (sp w))
  (hsp:∀(w:World)(H:Hp)(a:Addr)(ns:List Int),ns.length<=n->Nx H->Qe (K w.params) H a (ns.map V.int)->sp w [.ref a] H (λv _=>v=.bl true) λ_ _ _=>False)
  (hCX:∀(w:World)(H:Hp)(s:Shared)(e:Value)(s':Shared),CX w [] H s (λ_ _ _=>False) e s'->False) :
  PySem.W.WalkO q loose XP YP l.row.toRowW d [] (λf vs=>PySem.call f vs):=by
 refine Att.attach_call hn hdf λw s₀ s₁ mg mb fa o pm cd doc a vs ns G Y ho hd hcd hmg hobj hints b0 hg=>?_;have KX:=hY w _ Y;obtain⟨fd,hb,hF⟩:=F w mg fa _ KX G.T.g hmg
 exact FJ KX G.T.g G.T.b G.T.builtins G.T.nolimit (let ⟨mm,h1,_⟩:=(G.T.seer hq).mods;⟨mm,h1⟩) (let ⟨bm,ob,b1,b2,b3,b4,b5,b6⟩:=G.T.bmain;⟨bm,ob,b1,b2,b3,b4,b5,b6⟩) (hto w) (λy hy c P e=>by
  rcases hrc w y hy with z|z
  . rw[z]at e;cases e
  .
   obtain⟨d',hd'⟩:=V1.mp z
   exact PySem.W.tab_of G.T KX hd' e) hg hobj hints (UT b0 hn2) hr hF hb (λH hO hS=>hsp w H a ns b0 hO hS) λH e s'=>hCX w H s₁ e s'
noncomputable def pR(s:Stmt):Arguments:=match s with
 |.FunctionDef _ a _ _ _ _ _ _ _ _=>a
 |_=>{posonlyargs:=[],args:=[],vararg:=none,kwonlyargs:=[],kw_defaults:=[],kwarg:=none,defaults:=[] }
noncomputable def gA(s:Stmt):List Stmt:=match s with
 |.FunctionDef _ _ b _ _ _ _ _ _ _=>b
 |_=>[]
noncomputable def au(s:Stmt):Scope:=match s with
 |.FunctionDef _ _ _ _ _ _ sc _ _ _=>sc
 |_=>{kind:=.function,names:=[],isGenerator:=false,isCoroutine:=false}
noncomputable abbrev CX0:Qu:=λ_ _ _ _ _ _=>False
noncomputable abbrev E0:XK:=λ_ _ _=>False
theorem LF{X:Cx}:AM CX0 X E0:=λ_ _ _ _ _ _ _ h=>h.elim
structure QK (K:PySem.W.Frag) (x qual:Str) (st:Stmt) (f:Addr) (fd:FuncData):Prop where
 ex:∃(oc:Value)(od:Option Addr)(kV doc pm:Value)(an:Option Addr)(cdv ct:Value)(osl:Array (Option Value)),
  fd=PySem.W.fnOf x qual (pR st) (gA st) (au st) .none kV doc pm an cdv ct/\K.lookup f=some ⟨oc,od,.func fd,osl⟩/\PySem.W.codeIn K cdv qual=true
 kp:PySem.W.keepIn K (.ref f)=true
section
variable{P:Program}{w:World}{K:PySem.W.Frag}{mg:Str->Option Value}{base:Heap}
theorem QK.ok{x qual:Str}{st:Stmt}{f:Addr}{fd:FuncData}{N ps:List Str}{k:Nat}{sp:Sp}(F:QK K x qual st f fd)(S:aE N ps (au st))(len:∀vs H Q E,sp vs H Q E->vs.length=ps.length)
  (hbody:∀(cdv:Value)(A:Around)(outer:List Env)(s:Shared)(H:Hp)(vs:List V)(Q:VK)(E:XK),mv k (A.deeper (envOfC qual (au st) s.heap.objs.size f cdv))->sp vs H Q E ->
   ∃t,Qa (HK CX0 P w K mg base N qual (au st) f cdv A outer s H E).nox (gA st) t/\t {nx:=λ_ H'=>Q .non H',rt:=Q} (uz N vs) H):FnOk P w K mg base CX0 (k+1) f fd ps sp:=by
 obtain⟨oc,od,kV,doc,pm,an,cdv,ct,osl,rfl,lk,hcd⟩:=F.ex;refine Lu lk hcd S len λA outer s H vs Q E hr hsp=>?_;obtain⟨t,h,q⟩:=hbody cdv A outer s H vs Q E hr hsp;exact⟨t,h.nox,q⟩
theorem QK.binds{x qual:Str}{st:Stmt}{f:Addr}{fd:FuncData}{ps:List Str}(F:QK K x qual st f fd)
  (h:∀(kV doc pm:Value)(an:Option Addr)(cdv ct:Value)(us:List Value),us.length=ps.length->bindArgs (PySem.W.fnOf x qual (pR st) (gA st) (au st) .none kV doc pm an cdv ct) ⟨us,[]⟩=pure (ps.zip us)):zd K fd ps []:=by
 obtain⟨oc,od,kV,doc,pm,an,cdv,ct,osl,rfl,lk,hcd⟩:=F.ex;exact .all (h kV doc pm an cdv ct)
theorem HQ{x qual:Str}{st:Stmt}{f:Addr}{oc:Value}{od an:Option Addr}{osl:Array (Option Value)}{kV doc pm cdv ct:Value}(l:K.lookup f=some ⟨oc,od,.func (PySem.W.fnOf x qual (pR st) (gA st) (au st) .none kV doc pm an cdv ct),osl⟩)
  (c:PySem.W.codeIn K cdv qual=true) (k:PySem.W.keepIn K (.ref f)=true):QK K x qual st f (PySem.W.fnOf x qual (pR st) (gA st) (au st) .none kV doc pm an cdv ct):=⟨⟨oc,od,kV,doc,pm,an,cdv,ct,osl,rfl,l,c⟩,k⟩
end
def OT(H H':Hp):Prop:=∀b o,H b=some o->H' b=some o
theorem OT.free{H H':Hp}(e:OT H H'){l:Addr}(h:H' l=Option.none):H l=Option.none:=by
 cases q:H l with
 |none=>rfl
 | some o =>
  rw[e l o q]at h;cases h
end L2
set_option maxHeartbeats 0
namespace L2
open PySem PySem.Spec
open Sem (wp)
theorem l5:Slot "function" "__getattribute__" "object.__getattribute__" :=
 .of (owner:="object") (n:="__getattribute__") (by rw[typeLookup_type,builtinLookup_eq_fast]; kernel_rfl) y_ y_ y_
  (by first|exact .inl y_|exact .inr y_) (by rw[isSubtype_type];kernel_rfl)
theorem zh:entryFor table "object.__getattribute__"=some Builtin.«object.__getattribute__»:=by
 first | exact F.entry_object_getattribute | exact entryFor_alias (id':="object.__getattribute__") z_ (by first | rfl | decide +kernel) y_ z_ | kernel_rfl
theorem BZ(a b:Value):argsOk "object.__getattribute__" ⟨[a,b],[]⟩:=by
 first|exact F.args_object_getattribute_2 a b|(unfold argsOk;kernel_rfl)
theorem zi:typeLookup (.type "function") "__class__"=pure (some (.builtin "object.__class__")):=by rw[typeLookup_type,builtinLookup_eq_fast]; kernel_rfl
theorem oK:isSubtype (.type "function") (.type (".".intercalate ("object.__class__".cutAt '.').dropLast))=pure true:=by rw[F.owner_object_class,isSubtype_type];kernel_rfl
section
variable{prog:Program}{w:World}{A:Around}{E:Value->Shared->Prop}{h:Heap}{g:Array GenState}{d:Drawn}{t:Nat}{os:OsState}{a:Addr}{o:Obj}
theorem xy{R:Result->Shared->Prop}(hx:h.get? a=some o) (hc:o.cls=.type "function") (hq:R (.ok (.ret (.type "function"))) ⟨h,g,d,t,os⟩) :
  codeAny (model prog w) A (.call (.builtin "getset_descriptor.__get__") ⟨[.builtin "object.__class__",.ref a,.type "function"],[]⟩) R ⟨h,g,d,t,os⟩:=by
 have hT:(⟨h,g,d,t,os⟩:Shared).TypeIs (.ref a) "function":=⟨_,hx,hc⟩;have hT5:(⟨h,g,d,t,os⟩:Shared).TypeIs (.builtin "object.__class__") "getset_descriptor":=F.typeOf_object_class;have f8:=oK;refine codeAny_call_builtin F.slot_gs_get.plain F.entry_gs_get (F.slot_gs_get.check _ _ _ _ _ _ _ _ hT5 (F.args_gs_get _ _ _) ?_)
 repeat (any_goals (first|assumption|wp_step))
 refine⟨Code.quiet_builtin _ y_,codeAny_builtin F.entry_object_class ?_⟩
 repeat (any_goals (first|assumption|wp_step))
theorem uB{tk:Tok}{Q:PySem.Fin->Shared->Prop}(hx:h.get? a=some o) (hc:o.cls=.type "function") (hq:Q (.done (.ret (.type "function"))) ⟨h,g,d,t,os⟩) :
  wpAny (model prog w) A (Builtin.«object.__getattribute__» ⟨[.ref a,.str "__class__" tk],[]⟩) Q E ⟨h,g,d,t,os⟩:=by
 have hT:(⟨h,g,d,t,os⟩:Shared).TypeIs (.ref a) "function":=⟨_,hx,hc⟩;have hT5:(⟨h,g,d,t,os⟩:Shared).TypeIs (.builtin "object.__class__") "getset_descriptor":=F.typeOf_object_class;have f4:=zi;have f5:=F.typeOf_object_class;have f6:=F.slot_gs_get.lookup;have f7:=F.slot_gs_set.lookup
 repeat (any_goals (first|assumption|wp_step))
 refine xy hx hc ?_
 repeat (any_goals (first|assumption|wp_step))
theorem vI{tk:Tok}{R:Result->Shared->Prop}(hx:h.get? a=some o) (hc:o.cls=.type "function") (hq:R (.ok (.ret (.type "function"))) ⟨h,g,d,t,os⟩) :
  codeAny (model prog w) A (.call (.builtin "object.__getattribute__") ⟨[.ref a,.str "__class__" tk],[]⟩) R ⟨h,g,d,t,os⟩ :=
 codeAny_call_builtin l5.plain zh (l5.check _ _ _ _ _ _ _ _ (show(⟨h,g,d,t,os⟩:Shared).TypeIs (.ref a) "function" from⟨_,hx,hc⟩) (BZ _ _) (uB hx hc hq))
theorem zj{tk:Tok}{Q:Value->Shared->Prop}(hx:h.get? a=some o) (hc:o.cls=.type "function") (hq:Q (.type "function") ⟨h,g,d,t,os⟩):wpAny (model prog w) A (getAttrBy (.ref a) (.str "__class__" tk) false) Q E ⟨h,g,d,t,os⟩:=by
 have hT:(⟨h,g,d,t,os⟩:Shared).TypeIs (.ref a) "function":=⟨_,hx,hc⟩;have f2:=l5.lookup;have f3:=l5.bind (.ref a)
 repeat (any_goals (first|assumption|wp_step))
 refine vI hx hc ?_
 repeat (any_goals (first|assumption|wp_step))
theorem vJ{Q:Option Value->Shared->Prop}(hx:h.get? a=some o) (hc:o.cls=.type "function") (hq:Q (some (.type "function")) ⟨h,g,d,t+1,os⟩):wpAny (model prog w) A (getAttr? (.ref a) "__class__") Q E ⟨h,g,d,t,os⟩:=by
 unfold getAttr? getAttrBy?
 repeat (any_goals (first|assumption|with_reducible apply zj hx hc|wp_step))
end
theorem De{K:PySem.W.Frag}{a:Addr}:PySem.W.KitX K (.ref a) (.type "function") (PySem.W.KitAt a "function"):=PySem.W.kitx_of PySem.W.kitAt_ty (λ{_ _ _ _ _ s} p k=>by obtain⟨h,g,d,t,os⟩:=s; obtain⟨o,h1,h2⟩:=p; exact vJ h1 h2 k)
end L2
namespace L2
open PySem PySem.Spec PyProof.Rows
inductive D where
 |non|bl (b:Bool)|int (i:Int)|str (x:Str)|tup (xs:List D)|lst (xs:List D)|dct (n:Nat)|exc (c:Str) (ns:List Str) (xs:List D)|fn (x:Str) (d:D)|dk (ks:List PX) (vs:List D)|gf (x:Str)
def QL(K:PySem.W.Frag)(H:Hp)(a:Addr)(xs:List V):Prop :=
 (∃o,H a=some (.frz o (.lst xs))) ∨
  ∃(o:Obj)(its:Array Value)(n:Nat),K.lookup a=some o/\o.cls=.type "list"/\o.dict=none/\o.data=.seq its n/\its.size<=sizeLine/\cK xs its.toList
theorem QL.l{K:PySem.W.Frag}{H:Hp}{a:Addr}{xs:List V}(h:QL K H a xs):Qe K H a xs:=by
 rcases h with⟨o,h⟩|h
 . exact .inl (.inr ⟨o,h⟩)
 . exact .inr h
def I0:HO->Prop
 |.frz _ u=>I0 u
 |.ins _ _ _=>False
 |_=>True
noncomputable def Fs(C L:Addr):List Value:=(if C=L then[]else[.ref C])++[.ref L,.type "ValueError",.type "Exception",.type "BaseException",.type "object"]
noncomputable def u4(K:PySem.W.Frag)(c:Str)(C:Addr):Bool:=match PySem.W.clsIn K C,PySem.W.nsIn K mainGlobals "LoadError" with
 | some cd,some (some (.ref L))=>cd.name == c && cd.hasDict && cd.mro == Fs C L && (PySem.W.clsIn K L).any (λk=>k.name == ("LoadError" : Str)) &&
  PySem.W.findIn K (.ref C) "__getattribute__" == some (some (.builtin "BaseException.__getattribute__")) && PySem.W.findIn K (.ref C) "__getattr__" == some none && PySem.W.findIn K (.ref C) "__class__" == some (some (.builtin "object.__class__")) &&
  PySem.W.findIn K (.ref C) "__setattr__" == some (some (.builtin "object.__setattr__")) && PySem.W.typeIn K (.ref C) == some (.type "type") && PySem.W.nsIn K mainGlobals c == some (some (.ref C))
 |_,_=>false
noncomputable def Df:List Stmt->Option (Arguments×Expr×Scope×Pos)
 |[]=>none
 | st::r=>match Df r with
  |some l=>some l
  | none=>match st with
   | .Expr (.Call _ args _ _) _=>(match args.getLast? with
    |some (.Lambda p b sc pos)=>some (p,b,sc,pos)
    |_=>none)
   | .Return (some (.Call _ _ kws _)) _=>(match kws.getLast? with
    |some ⟨_,.Lambda p b sc pos,_⟩=>some (p,b,sc,pos)
    |_=>none)
   |_=>none
noncomputable def B0(K:PySem.W.Frag)(x:Str):Option (Arguments×Expr×Scope×Pos):=match PySem.W.nsIn K mainGlobals x with
 | some (some (.ref f))=>(match K.lookup f with
  | some ⟨_,_,.func fd,_⟩=>(match fd.body with
   |.stmts b=>Df b
   |_=>none)
  |_=>none)
 |_=>none
def XF(H:Hp)(dx:Option Addr)(ns:List Str)(vs:List V):Prop:=(ns=[]/\vs=[]/\dx=none)∨∃d od,dx=some d/\H d=some (.frz od (.xd (ns.zip vs)))/\ns.length=vs.length
mutual
inductive QM (K:PySem.W.Frag) (H:Hp):V->D->Prop where
 |non:QM K H .non .non
 |bl (b:Bool):QM K H (.bl b) (.bl b)
 |int (i:Int):QM K H (.int i) (.int i)
 |str (x:Str):QM K H (.str x) (.str x)
 |tup {a:Addr} {vs:List V} {ds:List D} (h:Qf K H a vs) (r:bO K H vs ds):QM K H (.ref a) (.tup ds)
 |lst {a:Addr} {vs:List V} {ds:List D} (h:QL K H a vs) (r:bO K H vs ds):QM K H (.ref a) (.lst ds)
 |dct {a:Addr} {o:Obj} {kvs:List (PX×V)} (h:H a=some (.frz o (.dK kvs))):QM K H (.ref a) (.dct kvs.length)
 |exc {a:Addr} {o:Obj} {u:HO} {c:Str} {C:Addr} {ns:List Str} {vs:List V} {ds:List D} (h:H a=some (.frz o u)) (hv:I0 u) (hc:o.cls=.ref C) (hn:PySem.W.notCls o=true) (hs:u4 K c C=true) (hq:∀f∈ns,PySem.W.findIn K (.ref C) f=some none) (hf:XF H o.dict ns vs) (r:bO K H vs ds):QM K H (.ref a) (.exc c ns ds)
 | fn {f c c':Addr} {oc oq:Obj} {x y:Str} {pr:Arguments} {bd:Expr} {sc:Scope} {pos:Pos} {pm ctv u:Value} {v:V} {d:D} (hl:B0 K x=some (pr,bd,sc,pos)) (hf:H f=some (.frz (PySem.W.kla_obj "<lambda>" (uZ x) pr bd sc [(y,c)] pm c' ctv) (.own f)))
  (hq:H c'=some (.frz oq (.own c'))) (hc:si oq (uZ x)) (hz:H c=some (.frz oc (.own c))) (hd:oc.data=.cell (some u)) (hv:cq v u) (hm:(y,NameKind.free)∈sc.names) (r:QM K H v d):QM K H (.ref f) (.fn x d)
 |dk {a:Addr} {o:Obj} {kvs:List (PX×V)} {ds:List D} (h:H a=some (.frz o (.dK kvs))) (r:bO K H (kvs.map (·.2)) ds):QM K H (.ref a) (.dk (kvs.map (·.1)) ds)
 |gf {a:Addr} {x:Str} {fd:FuncData} (h:PySem.W.nsIn K mainGlobals x=some (some (.ref a))) (ho:K.lookup a=some ⟨.type "function",none,.func fd,#[]⟩) (hk:PySem.W.keepIn K (.ref a)=true):QM K H (.ref a) (.gf x)
inductive bO (K:PySem.W.Frag) (H:Hp):List V->List D->Prop where
 |nil:bO K H [] []
 |cons {v:V} {d:D} {vs:List V} {ds:List D} (h:QM K H v d) (t:bO K H vs ds):bO K H (v::vs) (d::ds)
end
theorem QM.inv_non{K:PySem.W.Frag}{H:Hp}{v:V}(h:QM K H v .non):v=.non:=by cases h;rfl
theorem QM.inv_bl{K:PySem.W.Frag}{H:Hp}{v:V}{b:Bool}(h:QM K H v (.bl b)):v=.bl b:=by cases h;rfl
theorem QM.inv_int{K:PySem.W.Frag}{H:Hp}{v:V}{i:Int}(h:QM K H v (.int i)):v=.int i:=by cases h;rfl
theorem QM.inv_str{K:PySem.W.Frag}{H:Hp}{v:V}{x:Str}(h:QM K H v (.str x)):v=.str x:=by cases h;rfl
theorem QM.inv_tup{K:PySem.W.Frag}{H:Hp}{v:V}{ds:List D}(h:QM K H v (.tup ds)):∃a vs,v=.ref a/\Qf K H a vs/\bO K H vs ds:=by cases h;exact⟨_,_,rfl,‹_›,‹_›⟩
theorem QM.inv_lst{K:PySem.W.Frag}{H:Hp}{v:V}{ds:List D}(h:QM K H v (.lst ds)):∃a vs,v=.ref a/\QL K H a vs/\bO K H vs ds:=by cases h;exact⟨_,_,rfl,‹_›,‹_›⟩
def Ny:HO->Prop
 |.tup _=>True
 |.frz _ _=>True
 |.tbl _=>True
 |_=>False
def u5(H H':Hp):Prop:=∀b o,Ny o->H b=some o->H' b=some o
theorem Qf.pres{K:PySem.W.Frag}{H H':Hp}{a:Addr}{xs:List V}(p:u5 H H')(h:Qf K H a xs):Qf K H' a xs:=by
 rcases h with(h|⟨o,h⟩)|h
 . exact .inl (.inl (p _ _ True.intro h))
 . exact .inl (.inr ⟨o,p _ _ True.intro h⟩)
 . exact .inr h
theorem QL.pres{K:PySem.W.Frag}{H H':Hp}{a:Addr}{xs:List V}(p:u5 H H')(h:QL K H a xs):QL K H' a xs:=by
 rcases h with⟨o,h⟩|h
 . exact .inl ⟨o,p _ _ True.intro h⟩
 . exact .inr h
theorem XF.pres{H H':Hp}(p:u5 H H'){dx:Option Addr}{ns:List Str}{vs:List V}(h:XF H dx ns vs):XF H' dx ns vs:=by
 rcases h with h|⟨d,od,e,h,l⟩
 . exact .inl h
 . exact .inr ⟨d,od,e,p _ _ True.intro h,l⟩
def QN(o:HO):Prop:=Ny o/\I0 o
theorem vK(o:Obj)(b:Addr):QN (.frz o (.own b)):=⟨True.intro,True.intro⟩
theorem Ja(xs:List V):QN (.tup xs):=⟨True.intro,True.intro⟩
section
variable{K:PySem.W.Frag}{H H':Hp}
theorem Qf.mapv(p:∀b o,QN o->H b=some o->H' b=some o){a:Addr}{xs:List V}(h:Qf K H a xs):Qf K H' a xs:=by
 rcases h with(h|⟨o,h⟩)|h
 . exact .inl (.inl (p _ _ (Ja _) h))
 . exact .inl (.inr ⟨o,p _ _ ⟨True.intro,True.intro⟩ h⟩)
 . exact .inr h
theorem QL.mapv(p:∀b o,QN o->H b=some o->H' b=some o){a:Addr}{xs:List V}(h:QL K H a xs):QL K H' a xs:=by
 rcases h with⟨o,h⟩|h
 . exact .inl ⟨o,p _ _ ⟨True.intro,True.intro⟩ h⟩
 . exact .inr h
mutual
theorem QM.mapv(p:∀b o,QN o->H b=some o->H' b=some o):∀{v:V}{d:D},QM K H v d->QM K H' v d
 |_,_,.non=>.non
 |_,_,.bl b=>.bl b
 |_,_,.int i=>.int i
 |_,_,.str x=>.str x
 |_,_,.tup h r=>.tup (h.mapv p) (bO.mapv p r)
 |_,_,.lst h r=>.lst (h.mapv p) (bO.mapv p r)
 |_,_,.dct h=>.dct (p _ _ ⟨True.intro,True.intro⟩ h)
 | _,_,.exc h hv hc hn hs hq hf r=>.exc (p _ _ ⟨True.intro,hv⟩ h) hv hc hn hs hq (by
   rcases hf with hf|⟨d,od,e,h,l⟩
   .
    exact .inl hf
   .
    exact .inr ⟨d,od,e,p _ _ ⟨True.intro,True.intro⟩ h,l⟩) (bO.mapv p r)
 |_,_,.fn hl hf hq hc hz hd hv hm r=>.fn hl (p _ _ (vK _ _) hf) (p _ _ (vK _ _) hq) hc (p _ _ (vK _ _) hz) hd hv hm (QM.mapv p r)
 |_,_,.dk h r=>.dk (p _ _ ⟨True.intro,True.intro⟩ h) (bO.mapv p r)
 |_,_,.gf h ho hk=>.gf h ho hk
theorem bO.mapv(p:∀b o,QN o->H b=some o->H' b=some o):∀{vs:List V}{ds:List D},bO K H vs ds->bO K H' vs ds
 |_,_,.nil=>.nil
 |_,_,.cons h t=>.cons (QM.mapv p h) (bO.mapv p t)
end
theorem QM.pres(p:u5 H H'){v:V}{d:D}(r:QM K H v d):QM K H' v d:=r.mapv λb o z e=>p b o z.1 e
theorem bO.pres(p:u5 H H'){vs:List V}{ds:List D}(r:bO K H vs ds):bO K H' vs ds:=r.mapv λb o z e=>p b o z.1 e
end
theorem bO.length{K:PySem.W.Frag}{H:Hp}:∀{vs:List V}{ds:List D},bO K H vs ds->vs.length=ds.length
 |_,_,.nil=>rfl
 |_,_,.cons _ t=>by simp[bO.length t]
theorem bO.get{K:PySem.W.Frag}{H:Hp}:∀{vs:List V}{ds:List D}{i:Nat}{d:D},bO K H vs ds->ds[i]?=some d->∃v,vs[i]?=some v/\QM K H v d
 |_,_,_,_,.nil,e=>by simp at e
 |_,_,0,_,.cons h _,e=>by simp at e;subst e;exact⟨_,rfl,h⟩
 | _,_,i+1,d,.cons _ t,e=>by obtain⟨v,h1,h2⟩:=bO.get (i:=i) (d:=d) t (by simpa using e);exact⟨v,by simpa using h1,h2⟩
theorem bO.set{K:PySem.W.Frag}{H:Hp}{v:V}{d:D}(r:QM K H v d):∀{vs:List V}{ds:List D}(i:Nat),bO K H vs ds->bO K H (vs.set i v) (ds.set i d)
 |_,_,_,.nil=>.nil
 |_,_,0,.cons _ t=>.cons r t
 |_,_,i+1,.cons h t=>.cons h (bO.set r i t)
theorem bO.append{K:PySem.W.Frag}{H:Hp}:∀{vs us:List V}{ds es:List D},bO K H vs ds->bO K H us es->bO K H (vs++us) (ds++es)
 |_,_,_,_,.nil,s=>s
 |_,_,_,_,.cons h t,s=>.cons h (bO.append t s)
theorem bO.take{K:PySem.W.Frag}{H:Hp}:∀{vs:List V}{ds:List D}(n:Nat),bO K H vs ds->bO K H (vs.take n) (ds.take n)
 |_,_,0,_=>.nil
 |_,_,_+1,.nil=>.nil
 |_,_,n+1,.cons h t=>.cons h (bO.take n t)
theorem bO.drop{K:PySem.W.Frag}{H:Hp}:∀{vs:List V}{ds:List D}(n:Nat),bO K H vs ds->bO K H (vs.drop n) (ds.drop n)
 |_,_,0,r=>r
 |_,_,_+1,.nil=>.nil
 |_,_,n+1,.cons _ t=>bO.drop n t
inductive L where
 |un|d (x:D)|own (a:Addr) (xs:List D)|bx (k:Option Addr) (ls:List L)|dic (a:Addr) (kvs:List (PX×D))
noncomputable abbrev Ev:=List L
mutual
noncomputable def bf:L->List Addr
 |.un=>[]
 |.d _=>[]
 |.own a _=>[a]
 |.bx k ls=>k.toList++fW ls
 |.dic a _=>[a]
noncomputable def fW:List L->List Addr
 |[]=>[]
 |l::ls=>bf l++fW ls
end
noncomputable def owns(Z:Ev):List Addr:=Z.flatMap bf
theorem eD:∀ls:List L,fW ls=owns ls
 |[]=>rfl
 |l::ls=>by rw[fW,eD ls];rfl
mutual
def a9(K:PySem.W.Frag)(H:Hp)(s:Option V):L->Prop
 |.un=>True
 |.d x=>∃v,s=some v/\QM K H v x
 |.own a xs=>s=some (.ref a)/\∃vs,H a=some (.lst vs)/\bO K H vs xs
 |.bx none ls=>∃a vs,s=some (.ref a)/\Qf K H a vs/\cj K H vs ls
 |.bx (some a) ls=>s=some (.ref a)/\∃vs,H a=some (.lst vs)/\cj K H vs ls
 |.dic a kvs=>s=some (.ref a)/\∃vs,H a=some (.dK vs)/\Paired (λ(p:PX×V) (q:PX×D)=>p.1=q.1/\QM K H p.2 q.2) vs kvs
def cj(K:PySem.W.Frag)(H:Hp)(vs:List V):List L->Prop
 |[]=>vs=[]
 |l::ls=>∃v us,vs=v::us/\a9 K H (some v) l/\cj K H us ls
end
mutual
theorem a9.pres{K:PySem.W.Frag}{H H':Hp}(p:u5 H H'):∀{s:Option V}(l:L),(∀a∈bf l,H' a=H a)->a9 K H s l->a9 K H' s l
 |_,.un,_,_=>by simp only[a9]
 | _,.d x,_,h=>by
  simp only[a9]at h ⊢
  obtain⟨v,e,r⟩:=h
  exact⟨v,e,r.pres p⟩
 | _,.own a xs,q,h=>by
  simp only[a9]at h ⊢
  obtain⟨e,vs,ha,r⟩:=h
  exact⟨e,vs,(q a (by simp[bf])).trans ha,r.pres p⟩
 | _,.bx none ls,q,h=>by
  simp only[a9]at h ⊢
  obtain⟨a,vs,e,ha,r⟩:=h
  exact⟨a,vs,e,ha.pres p,cj.pres p ls (λb hb=>q b (by simp[bf,hb])) r⟩
 | _,.bx (some a) ls,q,h=>by
  simp only[a9]at h ⊢
  obtain⟨e,vs,ha,r⟩:=h
  exact⟨e,vs,(q a (by simp[bf])).trans ha,cj.pres p ls (λb hb=>q b (by simp[bf,hb])) r⟩
 | _,.dic a kvs,q,h=>by
  simp only[a9]at h ⊢
  obtain⟨e,vs,ha,r⟩:=h
  exact⟨e,vs,(q a (by simp[bf])).trans ha,Paired.mapP r λ_ _ z=>⟨z.1,z.2.pres p⟩⟩
theorem cj.pres{K:PySem.W.Frag}{H H':Hp}(p:u5 H H'):∀{vs:List V}(ls:List L),(∀a∈fW ls,H' a=H a)->cj K H vs ls->cj K H' vs ls
 |_,[],_,h=>by simpa only[cj]using h
 | _,l::ls,q,h=>by
  simp only[cj]at h ⊢
  obtain⟨v,us,e,h1,h2⟩:=h
  exact⟨v,us,e,a9.pres p l (λb hb=>q b (by simp[fW,hb])) h1,cj.pres p ls (λb hb=>q b (by simp[fW,hb])) h2⟩
end
def K5:HO->Prop
 |.lst _=>True
 |.dK _=>True
 |_=>False
theorem K5.no{o:HO}(h:K5 o)(p:Ny o):False:=by cases o<;>first|exact h|exact p
mutual
theorem a9.lstAt{K:PySem.W.Frag}{H:Hp}:∀{s:Option V}(l:L),a9 K H s l->∀a∈bf l,∃o,H a=some o/\K5 o
 |_,.un,_,a,ha=>by simp[bf]at ha
 |_,.d x,_,a,ha=>by simp[bf]at ha
 | _,.own b xs,h,a,ha=>by
  simp only[a9]at h
  have e:a=b:=by simpa[bf]using ha
  subst e
  obtain⟨_,vs,q,_⟩:=h
  exact⟨_,q,True.intro⟩
 | _,.bx none ls,h,a,ha=>by
  simp only[a9]at h
  obtain⟨b,vs,e,_,r⟩:=h
  exact cj.lstAt ls r a (by simpa[bf]using ha)
 | _,.bx (some b) ls,h,a,ha=>by
  simp only[a9]at h
  obtain⟨e,vs,q,r⟩:=h
  rcases(by simpa[bf]using ha:a=b∨a∈fW ls)with z|z
  .
   subst z;exact⟨_,q,True.intro⟩
  .
   exact cj.lstAt ls r a z
 | _,.dic b xs,h,a,ha=>by
  simp only[a9]at h
  have e:a=b:=by simpa[bf]using ha
  subst e
  obtain⟨_,vs,q,_⟩:=h
  exact⟨_,q,True.intro⟩
theorem cj.lstAt{K:PySem.W.Frag}{H:Hp}:∀{vs:List V}(ls:List L),cj K H vs ls->∀a∈fW ls,∃o,H a=some o/\K5 o
 |_,[],_,a,ha=>by simp[fW]at ha
 | _,l::ls,h,a,ha=>by
  simp only[cj]at h
  obtain⟨v,us,e,h1,h2⟩:=h
  rcases(by simpa[fW]using ha:a∈bf l∨a∈fW ls)with z|z
  .
   exact a9.lstAt l h1 a z
  .
   exact cj.lstAt ls h2 a z
end
structure aF (K:PySem.W.Frag) (Pr H:Hp) (σ:St) (Z:Ev):Prop where
 sub:∀b o,Pr b=some o->H b=some o
 nd:(owns Z).Nodup
 off:∀a∈owns Z,Pr a=none
 sl:Paired (a9 K H) σ Z
theorem jq{Z:Ev}{a:Addr}:a∈owns Z↔∃l∈Z,a∈bf l:=by unfold owns;rw[List.mem_flatMap]
theorem zk{Z:Ev}{a:Addr}{xs:List D}(h:L.own a xs∈Z):a∈owns Z:=jq.mpr ⟨_,h,by simp[bf]⟩
theorem aK(a b:Ev):owns (a++b)=owns a++owns b:=List.flatMap_append
theorem Paired.mem2{α β:Type}{F:α->β->Prop}:∀{l1:List α}{l2:List β}{b:β},Paired F l1 l2->b∈l2->∃a,a∈l1/\F a b
 |_,_,_,.nil,h=>by simp at h
 | _,_,_,.cons r t,h=>by
  rcases UV.mp h with rfl|h
  . exact⟨_,p4,r⟩
  . obtain⟨a,h1,h2⟩:=Paired.mem2 t h;exact⟨a,gV _ h1,h2⟩
theorem Paired.app{α β:Type}{F:α->β->Prop}:∀{a c:List α}{b d:List β},Paired F a b->Paired F c d->Paired F (a++c) (b++d)
 |_,_,_,_,.nil,s=>s
 |_,_,_,_,.cons r t,s=>.cons r (Paired.app t s)
theorem Paired.unapp{α β:Type}{F:α->β->Prop}:∀{a c:List α}{b d:List β},a.length=b.length->Paired F (a++c) (b++d)->Paired F a b/\Paired F c d
 |[],_,[],_,_,s=>⟨.nil,s⟩
 | x::a,_,y::b,_,hl,.cons r t=>by obtain⟨p,q⟩:=Paired.unapp (a:=a) (b:=b) (by simpa using hl) t;exact⟨.cons r p,q⟩
 |[],_,_::_,_,hl,_=>by simp at hl
 |_::_,_,[],_,hl,_=>by simp at hl
theorem Paired.get2{α β:Type}{F:α->β->Prop}:∀{l1:List α}{l2:List β}{i:Nat}{b:β},Paired F l1 l2->l2[i]?=some b->∃a,l1[i]?=some a/\F a b
 |_,_,_,_,.nil,e=>by simp at e
 |_,_,0,_,.cons h _,e=>by simp at e;subst e;exact⟨_,rfl,h⟩
 | _,_,i+1,d,.cons _ t,e=>by obtain⟨v,h1,h2⟩:=Paired.get2 (i:=i) (b:=d) t (by simpa using e);exact⟨v,by simpa using h1,h2⟩
theorem Paired.set2{α β:Type}{F:α->β->Prop}{a:α}{b:β}(r:F a b):∀{l1:List α}{l2:List β}(i:Nat),Paired F l1 l2->Paired F (l1.set i a) (l2.set i b)
 |_,_,_,.nil=>.nil
 |_,_,0,.cons _ t=>.cons r t
 |_,_,i+1,.cons h t=>.cons h (Paired.set2 r i t)
theorem Paired.impMem{α β:Type}{F G:α->β->Prop}:∀{l1:List α}{l2:List β},Paired F l1 l2->(∀b∈l2,∀a,F a b->G a b)->Paired G l1 l2
 |_,_,.nil,_=>.nil
 |_,_,.cons r t,h=>.cons (h _ p4 _ r) (Paired.impMem t λb hb=>h b (gV _ hb))
theorem Paired.set_r{α β:Type}{F:α->β->Prop}{b:β}:∀{l1:List α}{l2:List β}(i:Nat),Paired F l1 l2->(∀a,l1[i]?=some a->F a b)->Paired F l1 (l2.set i b)
 |_,_,_,.nil,_=>.nil
 |_,_,0,.cons _ t,h=>.cons (h _ rfl) t
 |_,_,i+1,.cons q t,h=>.cons q (Paired.set_r i t λa e=>h a (by simpa using e))
section
variable{K:PySem.W.Frag}{Pr H H':Hp}{σ τ w σ':St}{Z μ lam Z':Ev}
theorem aF.len(E:aF K Pr H σ Z):σ.length=Z.length:=Paired.length E.sl
noncomputable def bE(H:Hp)(Z:Ev):Hp:=λb=>if b∈owns Z then none else H b
theorem aF.at_own(E:aF K Pr H σ Z){a:Addr}(h:a∈owns Z):∃o,H a=some o/\K5 o:=by obtain⟨l,hx,ha⟩:=jq.mp h;obtain⟨s,_,q⟩:=Paired.mem2 E.sl hx;exact q.lstAt l a ha
theorem aF.wide(E:aF K Pr H σ Z):aF K (bE H Z) H σ Z :=
 ⟨λb o e=>by unfold bE at e;split at e;cases e;exact e,E.nd,λa h=>by unfold bE;rw[if_pos h],E.sl⟩
theorem aF.drop(E:aF K Pr H (τ++σ) (lam++Z))(hl:τ.length=lam.length):aF K Pr H σ Z :=
 ⟨E.sub,(Vq.mp (aK lam Z ▸ E.nd)).2.1,λa h=>E.off a (by rw[aK];exact U2 _ h),(Paired.unapp hl E.sl).2⟩
theorem aF.left(E:aF K Pr H (τ++σ) (lam++Z))(hl:τ.length=lam.length):aF K Pr H τ lam :=
 ⟨E.sub,(Vq.mp (aK lam Z ▸ E.nd)).1,λa h=>E.off a (by rw[aK];exact U8 _ h),(Paired.unapp hl E.sl).1⟩
theorem vL{H H':Hp}{Z:Ev}{σ:St}{Pr:Hp}(E:aF K Pr H σ Z)(h:∀b o,bE H Z b=some o->H' b=some o):u5 H H':=λb o p e=>by refine h b o ?_;unfold bE;rw[if_neg,e];intro hm;obtain⟨u,e',m⟩:=E.at_own hm;rw[e]at e';cases e';exact m.no p
theorem aF.step(E:aF K Pr H (τ++σ) (lam++Z))(hl:τ.length=lam.length)(E':aF K (bE H Z) H' (w++σ') (μ++Z'))(hw:w.length=μ.length):aF K Pr H' (w++(τ++σ')) (μ++(lam++Z')):=by
 have Eσ:=E.drop hl;have p:u5 H H':=vL Eσ E'.sub;have dis:∀a∈owns lam,a∉owns Z:=λa h1 h2=>(Vq.mp (aK lam Z ▸ E.nd)).2.2 a h1 a h2 rfl;have at':∀a∈owns lam,bE H Z a=H a:=λa h=>by unfold bE;rw[if_neg (dis a h)]
 have some':∀a∈owns lam,∃o,H a=some o/\K5 o:=λa h=>E.at_own (by rw[aK];exact U8 _ h);have out:∀a∈owns lam,a∉owns (μ++Z'):=λa h h2=>by have z:=E'.off a h2;rw[at' a h]at z;obtain⟨vs,e,_⟩:=some' a h;rw[e]at z;cases z
 have s1:=(Paired.unapp hw E'.sl);have s2:=(Paired.unapp hl E.sl).1;refine⟨λb o e=>?_,?_,λa ha=>?_,Paired.app s1.1 (Paired.app ?_ s1.2)⟩
 . refine E'.sub b o ?_;unfold bE;rw[if_neg,E.sub b o e];intro hm;have z:=Eσ.off b hm;rw[e]at z;cases z
 .
  have n1:=E'.nd;rw[aK]at n1;rw[aK,aK];obtain⟨q1,q2,q3⟩:=Vq.mp n1;refine Vq.mpr ⟨q1,Vq.mpr ⟨(Vq.mp (aK lam Z ▸ E.nd)).1,q2,λa ha b hb=>?_⟩,λa ha b hb=>?_⟩
  . rintro rfl;exact out a ha (by rw[aK];exact U2 _ hb)
  .
   rcases Vg.mp hb with hb|hb
   . rintro rfl;exact out a hb (by rw[aK];exact U8 _ ha)
   . exact q3 a ha b hb
 .
  rw[aK,aK]at ha
  have key:a∈owns (μ++Z')->Pr a=none:=λh=>by
   have z:=E'.off a h;unfold bE at z;by_cases hm:a∈owns Z
   . exact Eσ.off a hm
   .
    rw[if_neg hm]at z
    cases q:Pr a with
    |none=>rfl
    |some o=>rw[E.sub a o q]at z;cases z
  rcases Vg.mp ha with h|h
  . exact key (by rw[aK];exact U8 _ h)
  .
   rcases Vg.mp h with h|h
   . exact E.off a (by rw[aK];exact U8 _ h)
   . exact key (by rw[aK];exact U2 _ h)
 .
  have:∀l∈lam,∀s,a9 K H s l->a9 K H' s l:=λl hlm s h=>h.pres p l λa e=>by have ha:a∈owns lam:=jq.mpr ⟨l,hlm,e⟩;obtain⟨vs,e,_⟩:=some' a ha;rw[E'.sub a _ ((at' a ha).trans e),e]
  exact Paired.impMem s2 this
end
end L2
namespace L2
open PySem PySem.Spec PyProof.Rows PySem.W
structure B1 (K:Frag) (c:Str) (C L:Addr) (cd:ClassData):Prop where
 cls:clsIn K C=some cd
 load:nsIn K mainGlobals "LoadError"=some (some (.ref L))
 name:cd.name=c
 dct:cd.hasDict=true
 mro:cd.mro=Fs C L
 lname:∃ k,clsIn K L=some k/\k.name=("LoadError" : Str)
 ga:findIn K (.ref C) "__getattribute__"=some (some (.builtin "BaseException.__getattribute__"))
 gx:findIn K (.ref C) "__getattr__"=some none
 gc:findIn K (.ref C) "__class__"=some (some (.builtin "object.__class__"))
 sa:findIn K (.ref C) "__setattr__"=some (some (.builtin "object.__setattr__"))
 ty:typeIn K (.ref C)=some (.type "type")
 own:nsIn K mainGlobals c=some (some (.ref C))
theorem xA{K:Frag}{c:Str}{C:Addr}(h:u4 K c C=true):∃L cd,B1 K c C L cd:=by
 unfold u4 at h;split at h
 . rename_i cd L e1 e2;simp only[UQ,beq_iff_eq]at h;obtain⟨⟨⟨⟨⟨⟨⟨⟨⟨h1,h2⟩,h3⟩,h4⟩,h5⟩,h6⟩,h7⟩,h8⟩,h9⟩,h10⟩:=h;obtain⟨k,hk,hn⟩:=any_some h4;exact⟨L,cd,e1,e2,h1,h2,h3,⟨k,hk,beq_iff_eq.mp hn⟩,h5,h6,h7,h8,h9,h10⟩
 . cases h
section
variable{K:Frag}{c:Str}{C L:Addr}{cd:ClassData}
theorem Dg(C L:Addr):Fs C L=[.ref C,.ref L,.type "ValueError",.type "Exception",.type "BaseException",.type "object"]∨Fs C L=[.ref L,.type "ValueError",.type "Exception",.type "BaseException",.type "object"]/\C=L:=by
 by_cases h:C=L
 . exact .inr ⟨by unfold Fs;rw[if_pos h];rfl,h⟩
 . exact .inl (by unfold Fs;rw[if_neg h];rfl)
theorem FK(C L:Addr)(b:Value):(Fs C L).contains b=([.ref C,.ref L,.type "ValueError",.type "Exception",.type "BaseException",.type "object"]:List Value).contains b:=by
 rcases Dg C L with e|⟨e,h⟩
 . rw[e]
 . subst h;rw[e];simp only[List.contains_cons,<- Bool.or_assoc,Bool.or_self]
theorem B1.mroIn(S:B1 K c C L cd)(b:Value):PySem.W.mroIn K C b=some (([.ref C,.ref L,.type "ValueError",.type "Exception",.type "BaseException",.type "object"]:List Value).contains b):=by
 unfold PySem.W.mroIn;rw[S.cls,Option.bind_some,S.mro];have ne:(Fs C L).isEmpty=false:=by rcases Dg C L with e|⟨e,_⟩<;>rw[e]<;>rfl
 show(if(Fs C L).isEmpty=true then none else some ((Fs C L).contains b))=_
 rw[ne,FK];rfl
theorem sD(C L:Addr)(T:String):(([.ref C,.ref L,.type "ValueError",.type "Exception",.type "BaseException",.type "object"]:List Value).contains (.type T))=(["ValueError","Exception","BaseException","object"]:List String).contains T:=by
 simp only[List.contains_cons,List.contains_nil,Bool.or_false];have e:∀a:Addr,(Value.type T == Value.ref a)=false:=λ_=>rfl
 have f:∀U:String,(Value.type T == Value.type U)=(T == U):=λU=>by
  by_cases q:T=U
  . subst q;simp
  . rw[beq_eq_false_iff_ne.mpr q,beq_eq_false_iff_ne];intro z;injection z with z;exact q z
 rw[e,e,f,f,f,f];rfl
theorem B1.has(S:B1 K c C L cd){T:String} (h:(["ValueError","Exception","BaseException","object"]:List String).contains T=true):PySem.W.mroIn K C (.type T)=some true:=by rw[S.mroIn,sD,h]
theorem B1.isT(S:B1 K c C L cd){M:Model}{h:Heap}(X:K.In h)(T:String):Looks M h (isSubtype (.ref C) (.type T)) ((["ValueError","Exception","BaseException","object"]:List String).contains T):=looks_mroIn X (by rw[S.mroIn,sD])
end
section
variable{prog:Program}{w:World}{A:Around}{E:Value->Shared->Prop}{s:Shared}{K:Frag}{c:Str}{x C L:Addr}{cd:ClassData}{ox:Obj}{od:Option Obj}{name:Str}
theorem xB{tk:Tok}{Q:Fin->Shared->Prop}(S:B1 K c C L cd)(X:K.In s.heap)(I:InstAt s.heap x ox C od) (hf:findObj K C od "__class__"=some (.bind (.builtin "getset_descriptor.__get__") (.builtin "object.__class__"))) (hq:Q (.done (.ret (.ref C))) s) :
  wpAny (model prog w) A (Builtin.«object.__getattribute__» ⟨[.ref x,.str "__class__" tk],[]⟩) Q E s:=by
 obtain⟨hh,g,d,t,os⟩:=s;have L0:=I.type (M:=model prog w);have L1:=looks_find (M:=model prog w) X I hf;unfold Builtin.«object.__getattribute__»;refine UL (U0 (UL (U0 ?_)));refine UL (L0.at (UL (L1.at ?_)));show wpAny _ _ (holding [Value.builtin "object.__class__"] (call (.builtin "getset_descriptor.__get__") [.builtin "object.__class__",.ref x,.ref C]) >>= ret) _ _ _;refine UL (V0 (wpAny_call ?_));exact class_get (s:=⟨hh,g,d,t,os⟩) (ox:=ox) (od:=od) X I (S.has xp) (U0 hq)
theorem Jb{tk:Tok}{v:Value}{fill expr:Bool}{Q:Value->Shared->Prop}(S:B1 K c C L cd)(X:K.In s.heap)(I:InstAt s.heap x ox C od)
  (he:∀(A':Around)(Q':Fin->Shared->Prop),Q' (.done (.ret v)) s->wpAny (model prog w) A' (Builtin.«object.__getattribute__» ⟨[.ref x,.str name tk],[]⟩) Q' (λ_ _=>False) s) (hh:handedIn v=true) (hq:Q v s) :
  wpAny (model prog w) A (getAttrBy (.ref x) (.str name tk) fill expr) Q E s:=by
 have FB:=F.excAttr_ValueError;have L0:=I.type (M:=model prog w);have L1:=looks_findIn (M:=model prog w) X S.ga;have L2:=looks_findIn (M:=model prog w) X S.gx;unfold getAttrBy;refine V0 (UL (L0.here (UL (L1.here ?_))));have hx2:(Value.builtin "BaseException.__getattribute__" == Value.builtin "object.__getattribute__")=false:=by decide +kernel
 dsimp only;rw[hx2,Bool.and_false,if_neg (by decide)];unfold getAttrByItsOwn;refine UL ((looks_hook (mc:=.ref C) X (r:=none) S.gx).here ?_);refine UL (wpAny_attempt (V0 ?_));have hx0:(expr && onTheHeap (Value.builtin "BaseException.__getattribute__"))=false:=by cases expr <;> rfl
 unfold callGetattribute boundAndCalled;rw[hx0,if_neg (by decide),FB.ga.bind];refine UL (U0 (wpAny_call ?_));have hi:Looks (model prog w) s.heap (isInstance (.ref x) (.type "BaseException")) true:=L0.andThen (S.isT X _);have hkd:builtinKind "BaseException.__getattribute__"=some .slot:=by decide +kernel
 have hsp:splitId "BaseException.__getattribute__"=some ("BaseException","__getattribute__"):=by decide +kernel
 refine codeAny_call_builtin FB.ga.plain F.entry_bexc_ga (@check_slot (model prog w) _ _ s "BaseException.__getattribute__" "BaseException" "__getattribute__" (.ref x) [.str name tk] [] _ hkd hsp hi (F.args_bexc_ga (.ref x) (.str name tk)) ?_);refine V7 (he _ _ ?_) (λ_ _ z=>z) λ_ _ z=>z.elim;show wpAny _ _ (handedOut v) _ _ _;rw[handedOut_of hh];exact U0 hq
end
theorem Jc(K:Frag):specialIn K (.builtin "object.__class__") "__get__"=some (some (.builtin "getset_descriptor.__get__")):=(by decide +kernel:specialIn [] (.builtin "object.__class__") "__get__"=some (some (.builtin "getset_descriptor.__get__")))
theorem Dh(K:Frag):takesIn K (.builtin "object.__class__")=some true:=(by decide +kernel:takesIn [] (.builtin "object.__class__")=some true)
section
variable{prog:Program}{w:World}{A:Around}{E:Value->Shared->Prop}{s:Shared}{K:Frag}{c:Str}{x C L:Addr}{cd:ClassData}{ox:Obj}{od:Option Obj}
theorem B1.fclass(S:B1 K c C L cd)(od:Option Obj):findObj K C od "__class__"=some (.bind (.builtin "getset_descriptor.__get__") (.builtin "object.__class__")):=by unfold findObj;rw[S.cls,Option.bind_some,S.gc,Option.bind_some];simp[Jc,Dh]
theorem zl{Q:Option Value->Shared->Prop}(S:B1 K c C L cd)(X:K.In s.heap)(I:InstAt s.heap x ox C od)(hq:Q (some (.ref C)) {s with toks:=s.toks+1}) :
  wpAny (model prog w) A (getAttr? (.ref x) "__class__") Q E s:=by
 obtain⟨hh,g,d,t,os⟩:=s;unfold getAttr? getAttrBy?;refine UL (wpAny_mkText (UL (wpAny_attempt ?_)));exact Jb (s:=⟨hh,g,d,t+1,os⟩) (ox:=ox) (od:=od) S X I (λA' Q' q=>xB (s:=⟨hh,g,d,t+1,os⟩) S X I (S.fclass od) q) rfl (U0 hq)
theorem FL(S:B1 K c C L cd):KitX K (.ref x) (.ref C) (λh=>∃ox od,InstAt h x ox C od) where
 ty:=λ_ _ _ ⟨_,_,I⟩=>I.type
 it:=λ_ _ X _=>by
  have hc:=S.cls;unfold clsIn at hc;split at hc
  . rename_i ho;intro A' Q' E' s' k q;unfold isType loadHead;exact UL (wpAny_loadPart (k _ _ (X _ _ ho)) (U0 q))
  . cases hc
 ne:=λh tp dd its n sl X htp=>by
  refine Bool.eq_false_iff.mpr λq=>?_;have e:C=tp:=Value.ref.inj (beq_iff_eq.mp q);subst e;have hc:=S.cls;unfold clsIn at hc;split at hc
  . rename_i ho;have z:=(X _ _ ho).symm.trans htp;cases z
  . cases hc
 ca:=λX ⟨_,_,I⟩ k=>zl S X I k
end
end L2
namespace L2
open PySem PySem.Spec PyProof.Rows
section
variable{X:Cx}{ab:List (Addr×Obj)}{σ:St}{H:Hp}{s:Shared}
theorem P7.reword{a:Addr}{u w:HO}(I:P7 X ab σ H s)(h:H a=some u)(hu:¬Ny u)(hw:∀y,u≠.own y)(nw:iH X.prog X.w H s.heap a w)(hw2:∀C dx fs,w≠.ins C dx fs):P7 X ab σ (PY H a w) s:=by
 have ne:∀b,H b=none->b≠a:=λb n e=>by subst e;rw[h]at n;cases n
 have nt:∀b xs,H b=some (.tup xs)->b≠a:=λb xs n e=>by subst e;rw[h]at n;cases n;exact hu True.intro
 have nf:∀b o z,H b=some (.frz o z)->b≠a:=λb o z n e=>by subst e;rw[h]at n;cases n;exact hu True.intro
 have no:∀b z,H b=some (.own z)->b≠a:=λb z n e=>by subst e;rw[h]at n;cases n;exact hw _ rfl
 refine⟨I.ok,I.os,I.bare,⟨I.base.keep,I.base.slot,λb ob e n hx=>?_,I.base.there,λb xs e=>?_,λb ob z e=>?_,λb ps e=>?_⟩,I.loc,I.cell,?_,λx c e=>?_,λp hp=>?_,λb z e=>?_,I.len⟩
 . have q:=I.base.free b ob e n hx;rw[aG (ne b q)];exact q
 . have q:=I.base.tups b xs e;rw[aG (nt b xs q)];exact q
 . have q:=I.base.frzs b ob z e;rw[aG (nf b ob z q)];exact q
 . have q:=I.base.tbls b ps e;rw[aG (λz=>by subst z;rw[h]at q;cases q;exact hu True.intro)];exact q
 . rw[aG (ne _ I.free)];exact I.free
 .
  rcases I.freeC x c e with z|⟨hf,o,z⟩
  . exact .inl (by rw[aG (ne _ z)];exact z)
  . exact .inr ⟨hf,o,by rw[aG (nf _ _ _ z)];exact z⟩
 . obtain⟨e,n,r⟩:=I.pin p hp;exact⟨e,by rw[aG (ne _ n)];exact n,r⟩
 .
  by_cases hb:b=a
  . subst hb;rw[bC]at e;cases e;exact nw.stay (λc v _ q=>q) (λc q=>by rw[aG (no c _ q)];exact q) (λc xs q=>by rw[aG (nt c xs q)];exact q) λc ob _ _ q=>by rw[aG (nf c ob _ q)];exact q
  . rw[aG hb]at e;exact(I.hok b z e).stay (λc v _ q=>q) (λc q=>by rw[aG (no c _ q)];exact q) (λc xs q=>by rw[aG (nt c xs q)];exact q) λc ob _ _ q=>by rw[aG (nf c ob _ q)];exact q
theorem P7.freezeL{a:Addr}{xs:List V}(I:P7 X ab σ H s)(h:H a=some (.lst xs)):∃o,P7 X ab σ (PY H a (.frz o (.lst xs))) s:=by obtain⟨z,its,n,r,e⟩:=id (I.hok a _ h);exact⟨_,I.reword h (λq=>q) (λ_ q=>nomatch q) ⟨e,z,its,n,r,e⟩ (λ_ _ _ q=>nomatch q)⟩
end
section
variable{K:PySem.W.Frag}{Pr H:Hp}{σ:St}{Z:Ev}
theorem aF.new(E:aF K Pr H σ Z){p:Addr}{o:HO}(h:H p=none):aF K Pr (PY H p o) σ Z:=by
 have k:∀b u,H b=some u->PY H p o b=some u:=λb u e=>by rw[aG (bD e h)];exact e
 exact⟨λb u e=>k b u (E.sub b u e),E.nd,E.off,Paired.impMem E.sl λl hl s q=>q.pres (λb u _ e=>k b u e) l λa e=>by
  obtain⟨vs,e,_⟩:=E.at_own (jq.mpr ⟨l,hl,e⟩)
  rw[k _ _ e,e]⟩
theorem bO.new{vs:List V}{ds:List D}(r:bO K H vs ds){p:Addr}{o:HO}(h:H p=none):bO K (PY H p o) vs ds:=r.pres λb u _ e=>by rw[aG (bD e h)];exact e
theorem QM.new{v:V}{d:D}(r:QM K H v d){p:Addr}{o:HO}(h:H p=none):QM K (PY H p o) v d:=r.pres λb u _ e=>by rw[aG (bD e h)];exact e
theorem qI:owns (.un::Z)=owns Z:=rfl
theorem bc{a:Addr}{xs:List D}:owns (.own a xs::Z)=a::owns Z:=rfl
theorem aF.cons_d(E:aF K Pr H σ Z){v:V}{x:D}(r:QM K H v x):aF K Pr H (some v::σ) (.d x::Z):=⟨E.sub,E.nd,E.off,.cons ⟨v,rfl,r⟩ E.sl⟩
theorem aF.cons_un(E:aF K Pr H σ Z){v:Option V}:aF K Pr H (v::σ) (.un::Z):=⟨E.sub,E.nd,E.off,.cons True.intro E.sl⟩
theorem aF.cons_own(E:aF K Pr H σ Z){p:Addr}{vs:List V}{xs:List D}(h:H p=none)(r:bO K H vs xs):aF K Pr (PY H p (.lst vs)) (some (.ref p)::σ) (.own p xs::Z):=by
 have E':=E.new (o:=.lst vs) h;refine⟨E'.sub,?_,λa ha=>?_,.cons ⟨rfl,vs,bC,r.new h⟩ E'.sl⟩
 . rw[bc];refine Vf.mpr ⟨λhm=>?_,E.nd⟩;obtain⟨us,e,_⟩:=E.at_own hm;rw[h]at e;cases e
 .
  rw[bc]at ha;rcases UV.mp ha with rfl|ha
  .
   cases q:Pr a with
   |none=>rfl
   |some u=>rw[E.sub a u q]at h;cases h
  . exact E.off a ha
theorem aF.cons_tup(E:aF K Pr H σ Z){p:Addr}{vs:List V}{xs:List D}(h:H p=none)(r:bO K H vs xs):aF K Pr (PY H p (.tup vs)) (some (.ref p)::σ) (.d (.tup xs)::Z) :=
 (E.new h).cons_d (.tup (Qf.of bC) (r.new h))
theorem aF.freeze(E:aF K Pr H σ (.own a xs::Z)){vs:List V}(h:H a=some (.lst vs))(o:Obj):aF K Pr (PY H a (.frz o (.lst vs))) σ (.d (.lst xs)::Z):=by
 have pa:Pr a=none:=E.off a (by rw[bc];exact p4);have nd:=E.nd;rw[bc]at nd;obtain⟨hn,nd⟩:=Vf.mp nd;have p:u5 H (PY H a (.frz o (.lst vs))):=λb u pu e=>by rw[aG];exact e;rintro rfl;rw[h]at e;cases e;exact pu
 refine⟨λb u e=>?_,nd,λb hb=>E.off b (by rw[bc];exact gV _ hb),?_⟩
 . rw[aG];exact E.sub b u e;rintro rfl;rw[pa]at e;cases e
 .
  have sl:=E.sl
  cases sl with
  | cons q t =>
   obtain⟨e,us,e2,r⟩:=q;rw[h]at e2;cases e2;refine .cons ⟨.ref a,e,.lst (.inl ⟨o,bC⟩) (r.pres p)⟩ (Paired.impMem t λl hl s z=>z.pres p l λb hbm=>?_);rw[aG];rintro rfl;exact hn (jq.mpr ⟨l,hl,hbm⟩)
theorem aS(l:L)(Z:Ev):owns (l::Z)=bf l++owns Z:=rfl
theorem qJ{a:Addr}{xs ys:List D}:∀{Z:Ev}{i:Nat},Z[i]?=some (.own a xs)->owns (Z.set i (.own a ys))=owns Z
 |[],_,h=>by simp at h
 |_::_,0,h=>by simp at h;subst h;rfl
 | l::Z,i+1,h=>by have ih:=qJ (i:=i) (Z:=Z) (ys:=ys) (by simpa using h);show owns (l::Z.set i (.own a ys))=owns (l::Z);rw[aS,aS,ih]
theorem iZ{k:L}:∀{Z:Ev}{i:Nat}{l:L},Z[i]?=some k->bf l=[]->(owns Z).Perm (bf k++owns (Z.set i l))
 |[],_,_,h,_=>by simp at h
 | _::Z,0,l,h,hl=>by simp at h;subst h;show(owns (_::Z)).Perm (_++owns (l::Z));rw[aS,aS,hl];exact List.Perm.refl _
 | m::Z,i+1,l,h,hl=>by have ih:=iZ (i:=i) (Z:=Z) (l:=l) (by simpa using h) hl;show(owns (m::Z)).Perm (bf k++owns (m::Z.set i l));rw[aS,aS];refine(List.Perm.append_left _ ih).trans ?_;rw[<- Vs,<- Vs];exact List.Perm.append_right _ Vy
theorem Di{a:Addr}{xs:List D}{Z:Ev}{i:Nat}{l:L}(h:Z[i]?=some (.own a xs))(hl:bf l=[]):(owns Z).Perm (a::owns (Z.set i l)):=iZ h hl
theorem AQ{Z:Ev}{i:Nat}(l:L)(h:Z[i]?=some .un):(owns (Z.set i l)).Perm (bf l++owns Z):=by
 have hi:i<Z.length:=(k5.mp h).1;have pm:=iZ (Z:=Z.set i l) (i:=i) (k:=l) (l:=.un) (by simp[hi]) rfl;rw[Wd]at pm;have e2:Z.set i .un=Z:=by have:=List.set_getElem_self (as:=Z) (i:=i) hi;have e3:Z[i]=.un:=(k5.mp h).2;rw[e3]at this;exact this
 rw[e2]at pm;exact pm
theorem aF.outL(E:aF K Pr H σ Z){i:Nat}{k:L}{s:Option V}(h:Z[i]?=some k)(hs:σ[i]?=some s):aF K Pr H (s::σ) (k::Z.set i .un):=by have pm:=iZ (l:=.un) h rfl;obtain⟨s',hs',q⟩:=Paired.get2 E.sl h;rw[hs]at hs';cases hs';refine⟨E.sub,?_,λb hb=>E.off b (pm.mem_iff.mpr (by rw[aS]at hb;exact hb)),.cons q (Paired.set_r i E.sl λ_ _=>by simp only[a9])⟩;rw[aS];exact pm.nodup_iff.mp E.nd
theorem aF.out(E:aF K Pr H σ Z){i:Nat}{a:Addr}{xs:List D}(h:Z[i]?=some (.own a xs)):aF K Pr H (some (.ref a)::σ) (.own a xs::Z.set i .un):=by
 have pm:=Di (l:=.un) h rfl;obtain⟨s,hs,q⟩:=Paired.get2 E.sl h;refine⟨E.sub,?_,λb hb=>E.off b (pm.mem_iff.mpr (by rw[bc]at hb;exact hb)),.cons ?_ (Paired.set_r i E.sl λ_ _=>by simp only[a9])⟩
 . rw[bc];exact pm.nodup_iff.mp E.nd
 . obtain⟨_,r⟩:=q;exact⟨rfl,r⟩
theorem aF.back{v:Option V}{l:L}(E:aF K Pr H (v::σ) (l::Z)){i:Nat}(h:Z[i]?=some .un)(hs:σ[i]?=some v):aF K Pr H σ (Z.set i l):=by
 have sl:=E.sl
 cases sl with
 | cons q t =>
  have e1:Z.set i l=(Z.set i l):=rfl;refine⟨E.sub,?_,λb hb=>?_,Paired.set_r i t λa e=>by rw[hs]at e;cases e;exact q⟩
  . exact(AQ l h).nodup_iff.mpr E.nd
  . exact E.off b ((AQ l h).mem_iff.mp hb)
theorem aF.write(E:aF K Pr H σ (.own a xs::Z)){vs:List V}{ys:List D}(r:bO K H vs ys):aF K Pr (PY H a (.lst vs)) σ (.own a ys::Z):=by
 have pa:Pr a=none:=E.off a (by rw[bc];exact p4);have nd:=E.nd;rw[bc]at nd;obtain⟨hn,nd'⟩:=Vf.mp nd;obtain⟨us,ha,mu⟩:=E.at_own (a:=a) (by rw[bc];exact p4);have p:u5 H (PY H a (.lst vs)):=λb u pu e=>by rw[aG];exact e;rintro rfl;rw[ha]at e;cases e;exact mu.no pu
 refine⟨λb u e=>?_,nd,λb hb=>E.off b hb,?_⟩
 . rw[aG];exact E.sub b u e;rintro rfl;rw[pa]at e;cases e
 .
  have sl:=E.sl
  cases sl with
  | cons q t =>
   obtain⟨e,_⟩:=q;refine .cons ⟨e,vs,bC,r.pres p⟩ (Paired.impMem t λl hl s z=>z.pres p l λb hbm=>?_);rw[aG];rintro rfl;exact hn (jq.mpr ⟨l,hl,hbm⟩)
end
noncomputable abbrev W(α:Type):=Ev->(α->Ev->Prop)->Prop
inductive Fl where
 |nx|bk|ct|rt (r:L)
inductive EL (X:Cx) (ab:List (Addr×Obj)) (σ:St) (Pr:Hp) (k4:L->Ev->Prop) (u:Value) (s':Shared):Prop
 |mk (v:V) (H':Hp) (r:L) (Z':Ev) (i:P7 X ab σ H' s') (q:cq v u) (e:aF X.K Pr H' (some v::σ) (r::Z')) (p:k4 r Z')
theorem EL.on{G:Prop}{X:Cx}{ab:List (Addr×Obj)}{σ:St}{Pr:Hp}{k4:L->Ev->Prop}{u:Value}{s':Shared}(h:EL X ab σ Pr k4 u s')(k:∀v H' r Z',P7 X ab σ H' s'->cq v u->aF X.K Pr H' (some v::σ) (r::Z')->k4 r Z'->G):G:=by cases h with|mk a b c d e f g h=>exact k a b c d e f g h
def PL(X:Cx)(e:Expr)(t:W L):Prop :=
 ∀(ab:List (Addr×Obj))(s:Shared)(σ:St)(H Pr:Hp)(Z:Ev)(k4:L->Ev->Prop),P7 X ab σ H s->aF X.K Pr H σ Z->t Z k4->wpAny (model X.prog X.w) X.A (eval e X.env) (EL X ab σ Pr k4) X.xe s
inductive EB (X:Cx) (ab:List (Addr×Obj)) (σ:St) (Pr:Hp) (k4:Bool->Ev->Prop) (b:Bool) (s':Shared):Prop
 |mk (H':Hp) (Z':Ev) (i:P7 X ab σ H' s') (e:aF X.K Pr H' σ Z') (p:k4 b Z')
theorem EB.on{G:Prop}{X:Cx}{ab:List (Addr×Obj)}{σ:St}{Pr:Hp}{k4:Bool->Ev->Prop}{b:Bool}{s':Shared}(h:EB X ab σ Pr k4 b s')(k:∀H' Z',P7 X ab σ H' s'->aF X.K Pr H' σ Z'->k4 b Z'->G):G:=by cases h with|mk a c d e f=>exact k a c d e f
def PB(X:Cx)(e:Expr)(t:W Bool):Prop :=
 ∀(ab:List (Addr×Obj))(s:Shared)(σ:St)(H Pr:Hp)(Z:Ev)(k4:Bool->Ev->Prop),P7 X ab σ H s->aF X.K Pr H σ Z->t Z k4->wpAny (model X.prog X.w) X.A (isTrue e X.env (eval e X.env)) (EB X ab σ Pr k4) X.xe s
inductive EA (X:Cx) (ab:List (Addr×Obj)) (σ:St) (Pr:Hp) (bs:List (Option Nat)) (k4:List L->Ev->Prop) (us:List Value) (s':Shared):Prop
 |mk (vs:List V) (H':Hp) (ls:List L) (Z':Ev) (i:P7 X ab σ H' s') (q:cK vs us) (hl:vs.length=ls.length) (hb:vs.length=bs.length) (e:aF X.K Pr H' (vs.map some++σ) (ls++Z')) (o:∀(k i:Nat),bs[k]?=some (some i)->ls[k]?=some L.un/\∃v,vs[k]?=some v/\σ[i]?=some (some v)) (p:k4 ls Z')
theorem EA.on{G:Prop}{X:Cx}{ab:List (Addr×Obj)}{σ:St}{Pr:Hp}{bs:List (Option Nat)}{k4:List L->Ev->Prop}{us:List Value}{s':Shared}(h:EA X ab σ Pr bs k4 us s')(k:∀vs H' ls Z',P7 X ab σ H' s'->cK vs us->vs.length=ls.length->vs.length=bs.length->aF X.K Pr H' (vs.map some++σ) (ls++Z')->(∀(k i:Nat),bs[k]?=some (some i)->ls[k]?=some L.un/\∃v,vs[k]?=some v/\σ[i]?=some (some v))->k4 ls Z'->G):G:=by cases h with|mk a b c d e f g i j l m=>exact k a b c d e f g i j l m
def QO(X:Cx)(es:List Expr)(bs:List (Option Nat))(t:W (List L)):Prop :=
 ∀(pos:Pos)(ab:List (Addr×Obj))(s:Shared)(σ:St)(H Pr:Hp)(Z:Ev)(k4:List L->Ev->Prop),P7 X ab σ H s->aF X.K Pr H σ Z->t Z k4 ->
  wpAny (model X.prog X.w) X.A (spliced (backTo pos (starEach es X.env))) (EA X ab σ Pr bs k4) X.xe s
inductive QP (X:Cx) (ab:List (Addr×Obj)) (Pr:Hp) (k4:Ev->Prop) (s':Shared):Prop
 |mk (σ':St) (H':Hp) (Z':Ev) (i:P7 X ab σ' H' s') (e:aF X.K Pr H' σ' Z') (p:k4 Z')
inductive QQ (X:Cx) (ab:List (Addr×Obj)) (Pr:Hp) (k4:L->Ev->Prop) (u:Value) (s':Shared):Prop
 |mk (v:V) (σ':St) (H':Hp) (r:L) (Z':Ev) (τ:St) (i:P7 X ab σ' H' s') (q:cq v u) (e:aF X.K Pr H' (some v::τ) (r::Z')) (p:k4 r Z')
def SM(X:Cx)(ab:List (Addr×Obj))(Pr:Hp)(k4:Fl->Ev->Prop)(f:Flow)(s':Shared):Prop :=
 match f with
 |.next=>QP X ab Pr (k4 .nx) s'
 |.brk=>QP X ab Pr (k4 .bk) s'
 |.cont=>QP X ab Pr (k4 .ct) s'
 |.ret u=>QQ X ab Pr (λr=>k4 (.rt r)) u s'
def PM(X:Cx)(st:Stmt)(t:W Fl):Prop :=
 ∀(ab:List (Addr×Obj))(s:Shared)(σ:St)(H Pr:Hp)(Z:Ev)(k4:Fl->Ev->Prop),P7 X ab σ H s->aF X.K Pr H σ Z->t Z k4->wpAny (model X.prog X.w) X.A (exec st X.env) (SM X ab Pr k4) X.xe s
def QR(X:Cx)(st:List Stmt)(t:W Fl):Prop :=
 ∀(ab:List (Addr×Obj))(s:Shared)(σ:St)(H Pr:Hp)(Z:Ev)(k4:Fl->Ev->Prop),P7 X ab σ H s->aF X.K Pr H σ Z->t Z k4->wpAny (model X.prog X.w) X.A (execs st X.env) (SM X ab Pr k4) X.xe s
section
variable{X:Cx}{e a b:Expr}{pos:Pos}{ta tb:W L}
theorem PL.of{t:TE}{u:W L}(h:PE X e t)(q:∀σ H Pr Z k4,aF X.K Pr H σ Z->u Z k4->t σ H λv H'=>∃r Z',aF X.K Pr H' (some v::σ) (r::Z')/\k4 r Z'):PL X e u :=
 λab s σ H Pr Z k4 I E hu=>Qb (h ab s σ H _ I (q σ H Pr Z k4 E hu)) λu s1 ⟨v,H1,I1,r1,r,Z',E1,p⟩=>⟨v,H1,r,Z',I1,r1,E1,p⟩
mutual
noncomputable def bL:L->Option D
 |.un=>none
 |.d x=>some x
 |.own _ xs=>some (.lst xs)
 |.bx none ls=>(cL ls).map .tup
 |.bx (some _) ls=>(cL ls).map .lst
 |.dic _ _=>none
noncomputable def cL:List L->Option (List D)
 |[]=>some []
 | l::ls=>match bL l,cL ls with
  |some x,some xs=>some (x::xs)
  |_,_=>none
end
def fg:Option D->(D->Prop)->Prop
 |some x,k=>k x
 |none,_=>False
theorem B2{o:Option D}{k:D->Prop}(h:fg o k):∃x,o=some x/\k x:=by
 cases o with
 |some x=>exact⟨x,rfl,h⟩
 |none=>exact h.elim
def CJ(a:Option Addr)(ls:List L)(k:D->Prop):Prop:=fg (bL (.bx a ls)) k
def QS:L->(D->Prop)->Prop
 |.un,_=>False
 |.d x,k=>k x
 |.own _ xs,k=>k (.lst xs)
 |.bx a ls,k=>CJ a ls k
 |.dic _ _,_=>False
theorem zm{a:Option Addr}{ls:List L}{k:D->Prop}(h:CJ a ls k):∃x,bL (.bx a ls)=some x/\k x:=B2 h
def FM(ls:List L)(k:List D->Prop):Prop:=∃xs,cL ls=some xs/\k xs
theorem LG(ls:List L)(k:D->Prop):CJ none ls k=FM ls λxs=>k (.tup xs):=by
 unfold CJ FM;simp only[bL]
 cases cL ls with
 |none=>simp[fg]
 |some xs=>simp[fg]
theorem LH(a:Addr)(ls:List L)(k:D->Prop):CJ (some a) ls k=FM ls λxs=>k (.lst xs):=by
 unfold CJ FM;simp only[bL]
 cases cL ls with
 |none=>simp[fg]
 |some xs=>simp[fg]
theorem FN(k:List D->Prop):FM [] k=k []:=by unfold FM;simp[cL]
theorem Jd(l:L)(k:D->Prop):QS l k=∃x,bL l=some x/\k x:=by
 cases l with
 |un=>simp[QS,bL]
 |d x=>simp[QS,bL]
 |own a xs=>simp[QS,bL]
 | bx a ls =>
  show fg _ k=_
  cases bL (.bx a ls)with
  |none=>simp[fg]
  |some x=>simp[fg]
 |dic a kvs=>simp[QS,bL]
theorem Dj(l:L)(ls:List L)(k:List D->Prop):FM (l::ls) k=QS l λx=>FM ls λxs=>k (x::xs):=by
 rw[Jd];unfold FM;simp only[cL]
 cases bL l with
 |none=>simp
 | some x =>
  cases cL ls with
  |none=>simp
  |some xs=>simp
theorem b7{K:PySem.W.Frag}{H:Hp}:∀{vs:List V}{ls:List L},cj K H vs ls↔Paired (a9 K H) (vs.map some) ls
 |[],[]=>⟨λ_=>.nil,λ_=>by simp only[cj]⟩
 | v::vs,l::ls=>by
  simp only[cj,Ve];constructor
  . rintro⟨w,us,e,h1,h2⟩;cases e;exact .cons h1 (b7.mp h2)
  .
   intro h
   cases h with
   |cons q t=>exact⟨v,vs,rfl,q,b7.mpr t⟩
 | [],l::ls=>by
  simp only[cj,List.map_nil];constructor
  . rintro⟨w,us,e,_⟩;cases e
  . intro h;cases h
 | v::vs,[]=>by
  simp only[cj,Ve];constructor
  . intro h;cases h
  . intro h;cases h
theorem zo{K:PySem.W.Frag}{H:Hp}:∀{vs:List V}{xs:List D},Paired (a9 K H) (vs.map some) (xs.map .d)->bO K H vs xs
 |[],[],_=>.nil
 | v::vs,x::xs,h=>by
  simp only[Ve]at h
  cases h with
  | cons q t =>
   simp only[a9]at q;obtain⟨w,e,r⟩:=q;cases e;exact .cons r (zo t)
 |[],_::_,h=>by simp only[Ve,List.map_nil]at h;cases h
 |_::_,[],h=>by simp only[Ve,List.map_nil]at h;cases h
theorem cj.len{K:PySem.W.Frag}{H:Hp}{vs:List V}{ls:List L}(h:cj K H vs ls):vs.length=ls.length:=by have:=Paired.length (b7.mp h);simpa using this
theorem jr:∀{ls:List L}{xs:List D},cL ls=some xs->xs.length=ls.length
 |[],_,h=>by simp[cL]at h;subst h;rfl
 | l::ls,xs,h=>by
  simp only[cL]at h;split at h
  . rename_i x ys h1 h2;cases h;simp[jr h2]
  . cases h
theorem aF.openT{K:PySem.W.Frag}{Pr H:Hp}{σ:St}{Z:Ev}{v:Option V}{ls:List L}(E:aF K Pr H (v::σ) (.bx none ls::Z)):∃a vs,v=some (.ref a)/\Qf K H a vs/\vs.length=ls.length/\aF K Pr H (vs.map some++σ) (ls++Z):=by
 have sl:=E.sl
 cases sl with
 | cons q t =>
  simp only[a9]at q;obtain⟨a,vs,e,h,r⟩:=q;have ow:owns (.bx none ls::Z)=owns (ls++Z):=by rw[aS,aK];simp only[bf,Option.toList,VS,eD]
  exact⟨a,vs,e,h,r.len,E.sub,by rw[<- ow];exact E.nd,λb hb=>E.off b (by rw[ow];exact hb),Paired.app (b7.mp r) t⟩
theorem aF.openO{K:PySem.W.Frag}{Pr H:Hp}{σ:St}{Z:Ev}{v:Option V}{a:Addr}{ls:List L}(E:aF K Pr H (v::σ) (.bx (some a) ls::Z)):∃vs,v=some (.ref a)/\H a=some (.lst vs)/\vs.length=ls.length/\a∉owns (ls++Z)/\Pr a=none/\aF K Pr H (vs.map some++σ) (ls++Z):=by
 have sl:=E.sl
 cases sl with
 | cons q t =>
  simp only[a9]at q;obtain⟨e,vs,h,r⟩:=q;have ow:owns (.bx (some a) ls::Z)=a::owns (ls++Z):=by rw[aS,aK];simp only[bf,Option.toList,List.cons_append,VS,eD]
  have nd:=E.nd;rw[ow]at nd;obtain⟨n1,n2⟩:=Vf.mp nd;exact⟨vs,e,h,r.len,n1,E.off a (by rw[ow];exact p4),E.sub,n2,λb hb=>E.off b (by rw[ow];exact gV _ hb),Paired.app (b7.mp r) t⟩
def qK(H H':Hp)(S:List Addr):Prop:=u5 H H'/\(∀b,b∉S->H' b=H b)/\∀a∈S,∀vs,H a=some (.lst vs)->∃o,H' a=some (.frz o (.lst vs))
theorem qK.refl(H:Hp):qK H H []:=⟨λ_ _ _ e=>e,λ_ _=>rfl,λ_ h=>by simp at h⟩
mutual
theorem LJ:∀(l:L){ab:List (Addr×Obj)}{σ0:St}{s:Shared}{Pr H:Hp}{σ:St}{Z:Ev}{v:Option V}{x:D},P7 X ab σ0 H s->aF X.K Pr H (v::σ) (l::Z)->bL l=some x->∃H',P7 X ab σ0 H' s/\aF X.K Pr H' (v::σ) (.d x::Z)/\qK H H' (bf l)
 |.un,_,_,_,_,_,_,_,_,_,_,_,h=>by simp[bL]at h
 |.dic _ _,_,_,_,_,_,_,_,_,_,_,_,h=>by simp[bL]at h
 | .d y,_,_,_,_,_,_,_,_,_,I,E,h=>by
  simp only[bL,Vl]at h
  subst h
  exact⟨_,I,E,qK.refl _⟩
 | .own a xs,_,_,_,_,H,σ,Z,v,_,I,E,h=>by
  simp only[bL,Vl]at h
  subst h
  have sl:=E.sl
  cases sl with
  | cons q t =>
   simp only[a9]at q
   obtain⟨e0,vs,ha,r⟩:=q
   obtain⟨o,I'⟩:=I.freezeL ha
   refine⟨_,I',E.freeze ha o,λb u pu eb=>?_,λb hb=>?_,λb hb vs' eb=>?_⟩
   .
    rw[aG];exact eb
    rintro rfl
    rw[ha]at eb;cases eb;exact pu
   .
    rw[aG]
    rintro rfl
    exact hb (by simp[bf])
   .
    have e:b=a:=by simpa[bf]using hb
    subst e
    rw[ha]at eb;cases eb
    exact⟨o,bC⟩
 | .bx none ls,_,_,_,Pr,H,σ,Z,v,x,I,E,h=>by
  simp only[bL,Option.map_eq_some_iff]at h
  obtain⟨xs,h,rfl⟩:=h
  obtain⟨a,vs,rfl,ha,hl,E1⟩:=E.openT
  obtain⟨H',I',E',F⟩:=Je ls hl I E1 h
  have hxl:=jr h
  obtain⟨s1,s2⟩:=Paired.unapp (by simp[hl,hxl]) E'.sl
  refine⟨H',I',(E'.drop (by simp[hl,hxl])).cons_d (.tup (ha.pres F.1) (zo s1)),F.1,λb hb=>F.2.1 b ?_,λb hb=>F.2.2 b ?_⟩
  .
   simpa[bf,eD]using hb
  .
   simpa[bf,eD]using hb
 | .bx (some a) ls,_,_,_,Pr,H,σ,Z,v,x,I,E,h=>by
  simp only[bL,Option.map_eq_some_iff]at h
  obtain⟨xs,h,rfl⟩:=h
  obtain⟨vs,rfl,ha,hl,hn,hp,E1⟩:=E.openO
  obtain⟨H',I',E',F⟩:=Je ls hl I E1 h
  have hxl:=jr h
  have hal:a∉owns ls:=λz=>hn (by rw[aK];exact U8 _ z)
  have haρ:a∉owns Z:=λz=>hn (by rw[aK];exact U2 _ z)
  have ha':H' a=some (.lst vs):=(F.2.1 a hal).trans ha
  obtain⟨s1,s2⟩:=Paired.unapp (by simp[hl,hxl]) E'.sl
  have E2:=E'.drop (by simp[hl,hxl])
  have E3:aF X.K Pr H' (some (.ref a)::σ) (.own a xs::Z):=by
   refine⟨E2.sub,?_,λb hb=>?_,.cons ?_ E2.sl⟩
   .
    rw[bc];exact Vf.mpr ⟨haρ,E2.nd⟩
   .
    rw[bc]at hb
    rcases UV.mp hb with z|z
    .
     rw[z];exact hp
    .
     exact E2.off b z
   .
    unfold a9
    exact⟨rfl,vs,ha',zo s1⟩
  obtain⟨o,I2⟩:=I'.freezeL ha'
  refine⟨_,I2,E3.freeze ha' o,λb u pu e=>?_,λb hb=>?_,λb hb vs' eb=>?_⟩
  .
   rw[aG];exact F.1 b u pu e
   rintro rfl
   rw[ha]at e;cases e;exact pu
  .
   have hb':b≠a/\b∉owns ls:=by simpa[bf,eD,not_or]using hb
   rw[aG hb'.1]
   exact F.2.1 b hb'.2
  .
   by_cases hba:b=a
   .
    subst hba
    rw[ha]at eb;cases eb
    exact⟨o,bC⟩
   .
    have hb':b∈owns ls:=by
     rcases(by simpa[bf,eD]using hb:b=a∨b∈owns ls)with z|z
     .
      exact absurd z hba
     .
      exact z
    rw[aG hba]
    exact F.2.2 b hb' vs' eb
theorem Je:∀(ls:List L){ab:List (Addr×Obj)}{σ0:St}{s:Shared}{Pr H:Hp}{σ:St}{Z:Ev}{vs:List V}{xs:List D},vs.length=ls.length->P7 X ab σ0 H s->aF X.K Pr H (vs.map some++σ) (ls++Z)->cL ls=some xs->∃H',P7 X ab σ0 H' s/\aF X.K Pr H' (vs.map some++σ) (xs.map .d++Z)/\qK H H' (owns ls)
 | [],_,_,_,_,_,_,_,vs,xs,hl,I,E,h=>by
  simp only[cL,Vl]at h
  subst h
  cases vs with
  |nil=>exact⟨_,I,E,qK.refl _⟩
  |cons _ _=>simp at hl
 | l::ls,_,_,_,Pr,H,σ,Z,vs,xs,hl,I,E,h=>by
  simp only[cL]at h
  split at h
  rotate_left
  .
   cases h
  rename_i x ys h1 h2
  cases h
  cases vs with
  |nil=>simp at hl
  | cons v vs =>
   have hl':vs.length=ls.length:=by simpa using hl
   obtain⟨H1,I1,E1,F1⟩:=LJ l I E h1
   have E2:aF X.K (bE H1 (ls++Z)) H1 (vs.map some++σ) (ls++Z):=(E1.drop (τ:=[some v]) (lam:=[.d x]) rfl).wide
   obtain⟨H2,I2,E3,F2⟩:=Je ls hl' I1 E2 h2
   have hyl:=jr h2
   have E4:aF X.K Pr H2 (some v::(vs.map some++σ)) (.d x::(ys.map .d++Z)):=by
    have z:=aF.step (τ:=[some v]) (lam:=[.d x]) (w:=[]) (μ:=[]) (σ':=vs.map some++σ) (Z':=ys.map .d++Z) E1 rfl E3 rfl
    exact z
   refine⟨H2,I2,E4,λb u pu e=>F2.1 b u pu (F1.1 b u pu e),λb hb=>?_,λb hb vs' eb=>?_⟩
   .
    rw[aS]at hb
    rw[F2.2.1 b (λz=>hb (U2 _ z)),F1.2.1 b (λz=>hb (U8 _ z))]
   .
    rw[aS]at hb
    rcases Vg.mp hb with z|z
    .
     obtain⟨o,eo⟩:=F1.2.2 b z vs' eb
     exact⟨o,F2.1 b _ True.intro eo⟩
    .
     have hn:b∉bf l:=λz'=>by
      have nd:=E.nd
      rw[List.cons_append,aS,aK]at nd
      exact(Vq.mp nd).2.2 b z' b (U8 _ z) rfl
     exact F2.2.2 b z vs' ((F1.2.1 b hn).trans eb)
end
theorem EL.frz{ab:List (Addr×Obj)}{σ:St}{Pr:Hp}{k4:D->Ev->Prop}{u:Value}{s':Shared}(h:EL X ab σ Pr (λr Z=>QS r λx=>k4 x Z) u s') :
  ∃v H' x Z',P7 X ab σ H' s'/\cq v u/\aF X.K Pr H' (some v::σ) (.d x::Z')/\k4 x Z':=by
 obtain⟨v,H',r,Z',I,rv,E,p⟩:=h
 cases r with
 |un=>exact p.elim
 |d x=>exact⟨v,H',x,Z',I,rv,E,p⟩
 | own a xs =>
  obtain⟨H2,I2,E2,_⟩:=LJ (.own a xs) I E rfl;exact⟨v,H2,.lst xs,Z',I2,rv,E2,p⟩
 | bx a ls =>
  obtain⟨x,ex,p⟩:=zm p;obtain⟨H2,I2,E2,_⟩:=LJ (.bx a ls) I E ex;exact⟨v,H2,x,Z',I2,rv,E2,p⟩
 |dic a kvs=>exact p.elim
def bB(t:W L):W L:=λZ k4=>t Z λr Z1=>QS r λx=>k4 (.d x) Z1
theorem az{t:W L}(h:PL X e t):PL X e (bB t):=λab s σ H Pr Z k4 I E ht =>
 Qb (h ab s σ H Pr Z _ I E ht) λu s1 q=>by obtain⟨v,H',x,Z',I',rv,E',p⟩:=EL.frz (k4:=λx Z=>k4 (.d x) Z) q;exact⟨v,H',.d x,Z',I',rv,E',p⟩
theorem aF.head_d{K:PySem.W.Frag}{Pr H:Hp}{v:Option V}{σ:St}{x:D}{Z:Ev}(E:aF K Pr H (v::σ) (.d x::Z)):∃w,v=some w/\QM K H w x:=by
 have sl:=E.sl
 cases sl with
 |cons q t=>exact q
theorem aF.tail{K:PySem.W.Frag}{Pr H:Hp}{v:Option V}{σ:St}{l:L}{Z:Ev}(E:aF K Pr H (v::σ) (l::Z)):aF K Pr H σ Z:=aF.drop (τ:=[v]) (lam:=[l]) E rfl
theorem two{ab:List (Addr×Obj)}{s:Shared}{σ:St}{H Pr:Hp}{Z:Ev}{R:D->D->Ev->Prop}(ha:PL X a ta)(hb:PL X b tb)(I:P7 X ab σ H s)(E:aF X.K Pr H σ Z)
  (h:ta Z λx Z1=>QS x λdx=>tb Z1 λy Z2=>QS y λdy=>R dx dy Z2) {α:Type} {Q:α->Shared->Prop} {f:Value->Value->Sem α}
  (hf:∀v u s2 x y H2 dx dy Z2,P7 X ab σ H2 s2->cq x v->cq y u->aF X.K Pr H2 (some y::some x::σ) (.d dy::.d dx::Z2)->QM X.K H2 x dx->QM X.K H2 y dy->R dx dy Z2->wpAny (model X.prog X.w) X.A (f v u) Q X.xe s2) :
  wpAny (model X.prog X.w) X.A (eval a X.env) (λv s₁=>wpAny (model X.prog X.w) X.A (eval b X.env) (λu s₂=>wpAny (model X.prog X.w) X.A (f v u) Q X.xe s₂) X.xe s₁) X.xe s:=by
 refine Qb (ha ab s σ H Pr Z _ I E h) λv s1 q=>?_;obtain⟨x,H1,dx,Z1,I1,r1,E1,q1⟩:=EL.frz (k4:=λdx Z1=>tb Z1 λy Z2=>QS y λdy=>R dx dy Z2) q;refine Qb (hb ab s1 σ H1 _ Z1 _ I1 E1.tail.wide q1) λu s2 q=>?_;obtain⟨y,H2,dy,Z2,I2,r2,E2,q2⟩:=EL.frz (k4:=λdy Z2=>R dx dy Z2) q;have E3:aF X.K Pr H2 (some y::some x::σ) (.d dy::.d dx::Z2):=aF.step (τ:=[some x]) (lam:=[.d dx]) (w:=[some y]) (μ:=[.d dy]) E1 rfl E2 rfl;obtain⟨_,e1,p1⟩:=E3.head_d;obtain⟨_,e2,p2⟩:=E3.tail.head_d;cases e1;cases e2;exact hf v u s2 x y H2 dx dy Z2 I2 r1 r2 E3 p2 p1 q2
abbrev QT:=D->D->(L->Prop)->Prop
def QU(X:Cx)(f:Value->Value->Sem Value)(op:QT):Prop :=
 ∀(ab:List (Addr×Obj))(s:Shared)(σ:St)(H Pr:Hp)(Z:Ev)(x y:V)(v u:Value)(dx dy:D)(k4:L->Prop),P7 X ab σ H s->cq x v->cq y u->aF X.K Pr H σ Z->QM X.K H x dx->QM X.K H y dy->op dx dy k4 ->
  wpAny (model X.prog X.w) X.A (f v u) (λw s'=>∃z H' r,P7 X ab σ H' s'/\cq z w/\aF X.K Pr H' (some z::σ) (r::Z)/\k4 r) X.xe s
theorem QU.of{f:Value->Value->Sem Value}{r:R2}{op:QT}(h:Qm X f r)(q:∀σ H Pr Z x y dx dy k4,aF X.K Pr H σ Z->QM X.K H x dx->QM X.K H y dy->op dx dy k4->r x y H λz H'=>∃r,aF X.K Pr H' (some z::σ) (r::Z)/\k4 r):QU X f op :=
 λab s σ H Pr Z x y v u dx dy k4 I rx ry E px py ho=>Qb (h ab s σ H x y v u _ I rx ry (q σ H Pr Z x y dx dy k4 E px py ho)) λw s' ⟨z,H',I',rz,r,E',p⟩=>⟨z,H',r,I',rz,E',p⟩
theorem QU.imp{f:Value->Value->Sem Value}{o1 o2:QT}(h1:QU X f o1)(h:∀x y p,o2 x y p->o1 x y p):QU X f o2 :=
 λab s σ H Pr Z x y v u dx dy k4 I rx ry E px py ho=>h1 ab s σ H Pr Z x y v u dx dy k4 I rx ry E px py (h _ _ _ ho)
def ay(op:QT)(ta tb:W L):W L:=λZ k4=>ta Z λx Z1=>QS x λdx=>tb Z1 λy Z2=>QS y λdy=>op dx dy λr=>k4 r Z2
theorem aC{op:Operator}{o:QT}(ho:QU X (binaryOp op) o)(ha:PL X a ta)(hb:PL X b tb):PL X (.BinOp a op b pos) (ay o ta tb):=λab s σ H Pr Z k4 I E h =>
 wpAny_BinOp (two (R:=λdx dy Z2=>o dx dy λr=>k4 r Z2) ha hb I E h λv u s2 x y H2 dx dy Z2 I2 r1 r2 E2 p1 p2 q =>
  Qb (ho ab s2 σ H2 Pr Z2 x y v u dx dy _ I2 r1 r2 E2.tail.tail p1 p2 q) λw s3 ⟨z,H3,r,I3,rz,E3,p⟩=>⟨z,H3,r,Z2,I3,rz,E3,p⟩)
theorem eE{op:CmpOp}{o:QT}(ho:QU X (compareOp op) o)(ha:PL X a ta)(hb:PL X b tb)(hm:behindInMarks op b=false):PL X (.Compare a [op] [b] pos) (ay o ta tb):=λab s σ H Pr Z k4 I E h =>
 wpAny_Compare1 (two (R:=λdx dy Z2=>o dx dy λr=>k4 r Z2) ha hb I E h λv u s2 x y H2 dx dy Z2 I2 r1 r2 E2 p1 p2 q =>
  Qb (ho ab s2 σ H2 Pr Z2 x y v u dx dy _ I2 r1 r2 E2.tail.tail p1 p2 q) λw s3 ⟨z,H3,r,I3,rz,E3,p⟩=>⟨z,H3,r,Z2,I3,rz,E3,p⟩) hm
def wC(x:D):W L:=λZ k4=>k4 (.d x) Z
theorem ah {i j pos}:PL X (.Constant (.int i) j pos) (wC (.int i)):=PL.of Lf λσ H Pr Z k4 E h=>⟨_,_,E.cons_d (.int i),h⟩
theorem cY {b j pos}:PL X (.Constant (.bool b) j pos) (wC (.bl b)):=PL.of NF λσ H Pr Z k4 E h=>⟨_,_,E.cons_d (.bl b),h⟩
theorem u6 {j pos}:PL X (.Constant .none j pos) (wC .non):=PL.of Lg λσ H Pr Z k4 E h=>⟨_,_,E.cons_d .non,h⟩
theorem i3 {x j pos}:PL X (.Constant (.str x) j pos) (wC (.str x)):=PL.of HF λσ H Pr Z k4 E h=>⟨_,_,E.cons_d (.str x),h⟩
def LK(o:Option L)(i:Nat)(Z:Ev)(k4:L->Ev->Prop):Prop:=match o with
 |some (.d x)=>k4 (.d x) Z
 |some (.own _ xs)=>k4 (.d (.lst xs)) (Z.set i (.d (.lst xs)))
 |some (.bx a ls)=>CJ a ls λx=>k4 (.d x) (Z.set i (.d x))
 |_=>False
def ak(i:Nat):W L:=λZ k4=>LK Z[i]? i Z k4
theorem LM(x:D)(i:Nat)(Z:Ev)(k4:L->Ev->Prop):LK (some (.d x)) i Z k4=k4 (.d x) Z:=rfl
theorem FO(a:Addr)(xs:List D)(i:Nat)(Z:Ev)(k4:L->Ev->Prop):LK (some (.own a xs)) i Z k4=k4 (.d (.lst xs)) (Z.set i (.d (.lst xs))):=rfl
theorem Jf(a:Option Addr)(ls:List L)(i:Nat)(Z:Ev)(k4:L->Ev->Prop):LK (some (.bx a ls)) i Z k4=CJ a ls λx=>k4 (.d x) (Z.set i (.d x)):=rfl
theorem aF.slot{K:PySem.W.Frag}{Pr H:Hp}{σ:St}{Z:Ev}{i:Nat}{l:L}(E:aF K Pr H σ Z)(h:Z[i]?=some l):∃s,σ[i]?=some s/\a9 K H s l:=Paired.get2 E.sl h
theorem ae(i:Nat){x:Str}{pos:Pos}(hN:X.N[i]?=some x:=by rfl)(hv:P5 X.env.scope x:=by first | exact Or.inl rfl | exact Or.inr (Or.inl rfl) | exact Or.inr (Or.inr rfl)) (hd:(x == ("__debug__" : Str))=false:=by decide)
  (hcd:(x == ("__classdict__" : Str))=false:=by decide):PL X (.Name x pos) (ak i):=by
 intro ab s σ H Pr Z k4 I E h;unfold ak LK at h
 cases q:Z[i]? with
 |none=>rw[q]at h;exact h.elim
 | some l =>
  rw[q]at h;obtain⟨sv,hs,sl⟩:=E.slot q
  cases l with
  |un=>exact h.elim
  |dic a kvs=>exact h.elim
  | d y =>
   obtain⟨v,rfl,r⟩:=sl;exact Qb (ke hN hv hd hcd ab s σ H (λw H'=>w=v/\H'=H) I ⟨v,hs,rfl,rfl⟩) λu s1 ⟨w,H1,I1,r1,e1,e2⟩=>by subst e1 e2;exact⟨w,H1,_,Z,I1,r1,E.cons_d r,h⟩
  | own a xs =>
   obtain⟨rfl,vs,ha,r⟩:=sl;refine Qb (ke hN hv hd hcd ab s σ H (λw H'=>w=.ref a/\H'=H) I ⟨.ref a,hs,rfl,rfl⟩) λu s1 ⟨w,H1,I1,r1,e1,e2⟩=>?_;subst e1 e2;obtain⟨o,I2⟩:=I1.freezeL ha;have E2:=(E.out q).freeze ha o;have hi:i<Z.length:=(k5.mp q).1;have E3:=E2.back (i:=i) (by simp[hi]) hs;rw[Wd]at E3;obtain⟨_,e,p⟩:=E2.head_d;cases e;exact⟨_,_,_,_,I2,r1,E3.cons_d p,h⟩
  | bx a ls =>
   obtain⟨y,ey,h⟩:=zm h
   have hv':∃b,sv=some (.ref b):=by
    cases a with
    |none=>simp only[a9]at sl;obtain⟨b,_,e,_⟩:=sl;exact⟨b,e⟩
    |some b=>simp only[a9]at sl;exact⟨b,sl.1⟩
   obtain⟨b,rfl⟩:=hv';refine Qb (ke hN hv hd hcd ab s σ H (λw H'=>w=.ref b/\H'=H) I ⟨.ref b,hs,rfl,rfl⟩) λu s1 ⟨w,H1,I1,r1,e1,e2⟩=>?_;subst e1 e2;obtain⟨H2,I2,E2,_⟩:=LJ (.bx a ls) I1 (E.outL q hs) ey;have hi:i<Z.length:=(k5.mp q).1;have E3:=E2.back (i:=i) (by simp[hi]) hs;rw[Wd]at E3;obtain⟨_,e,p⟩:=E2.head_d;cases e;exact⟨_,_,_,_,I2,r1,E3.cons_d p,h⟩
def K6(o:Option L)(i:Nat)(Z:Ev)(k4:L->Ev->Prop):Prop:=match o with
 |some (.d x)=>k4 (.d x) Z
 |some (.own a xs)=>k4 (.own a xs) (Z.set i .un)
 |some (.bx a ls)=>k4 (.bx a ls) (Z.set i .un)
 |_=>False
def nC(i:Nat):W L:=λZ k4=>K6 Z[i]? i Z k4
theorem LN(x:D)(i:Nat)(Z:Ev)(k4:L->Ev->Prop):K6 (some (.d x)) i Z k4=k4 (.d x) Z:=rfl
theorem FP(a:Addr)(xs:List D)(i:Nat)(Z:Ev)(k4:L->Ev->Prop):K6 (some (.own a xs)) i Z k4=k4 (.own a xs) (Z.set i .un):=rfl
theorem Jg(a:Option Addr)(ls:List L)(i:Nat)(Z:Ev)(k4:L->Ev->Prop):K6 (some (.bx a ls)) i Z k4=k4 (.bx a ls) (Z.set i .un):=rfl
theorem gB(i:Nat){x:Str}{pos:Pos}(hN:X.N[i]?=some x:=by rfl)(hv:P5 X.env.scope x:=by first | exact Or.inl rfl | exact Or.inr (Or.inl rfl) | exact Or.inr (Or.inr rfl)) (hd:(x == ("__debug__" : Str))=false:=by decide)
  (hcd:(x == ("__classdict__" : Str))=false:=by decide):PL X (.Name x pos) (nC i):=by
 intro ab s σ H Pr Z k4 I E h;unfold nC K6 at h
 cases q:Z[i]? with
 |none=>rw[q]at h;exact h.elim
 | some l =>
  rw[q]at h;obtain⟨sv,hs,sl⟩:=E.slot q
  cases l with
  |un=>exact h.elim
  |dic a kvs=>exact h.elim
  | d y =>
   obtain⟨v,rfl,r⟩:=sl;exact Qb (ke hN hv hd hcd ab s σ H (λw H'=>w=v/\H'=H) I ⟨v,hs,rfl,rfl⟩) λu s1 ⟨w,H1,I1,r1,e1,e2⟩=>by subst e1 e2;exact⟨w,H1,_,Z,I1,r1,E.cons_d r,h⟩
  | own a xs =>
   obtain⟨rfl,vs,ha,r⟩:=sl;refine Qb (ke hN hv hd hcd ab s σ H (λw H'=>w=.ref a/\H'=H) I ⟨.ref a,hs,rfl,rfl⟩) λu s1 ⟨w,H1,I1,r1,e1,e2⟩=>?_;subst e1 e2;exact⟨_,_,_,_,I1,r1,E.out q,h⟩
  | bx a ls =>
   have hv':∃b,sv=some (.ref b):=by
    cases a with
    |none=>simp only[a9]at sl;obtain⟨b,_,e,_⟩:=sl;exact⟨b,e⟩
    |some b=>simp only[a9]at sl;exact⟨b,sl.1⟩
   obtain⟨b,rfl⟩:=hv';refine Qb (ke hN hv hd hcd ab s σ H (λw H'=>w=.ref b/\H'=H) I ⟨.ref b,hs,rfl,rfl⟩) λu s1 ⟨w,H1,I1,r1,e1,e2⟩=>?_;subst e1 e2;exact⟨_,_,_,_,I1,r1,E.outL q hs,h⟩
theorem Jh{x:Str}{v:V}{u:Value}{y:D}{pos:Pos}(hg:Gl X x)(hm:X.mg x=some u)(r:cq v u)(hy:∀ H,QM X.K H v y) (hd:(x == ("__debug__" : Str))=false:=by decide):PL X (.Name x pos) (wC y) :=
 PL.of (IP hg hm r hd) λσ H Pr Z k4 E h=>⟨_,_,E.cons_d (hy H),h⟩
def AR:L->(Bool->Prop)->Prop
 |.d (.bl b),k=>k b
 |_,_=>False
def aN(t:W L):W Bool:=λZ k4=>t Z λr Z1=>AR r λb=>k4 b Z1
theorem sE{r:L}{k:Bool->Prop}(h:AR r k):∃b,r=.d (.bl b)/\k b:=by
 cases r with
 | d x=>cases x with
  |bl b=>exact⟨b,rfl,h⟩
  |_=>exact h.elim
 |_=>exact h.elim
theorem bg{t:W L}(h:PL X e t)(he:∀whole,isTrue e X.env whole=(do let v <- whole;standAt e.pos;holding [v] (truthy v)):=by intro _;rfl):PB X e (aN t):=by intro ab s σ H Pr Z k4 I E ht;rw[he];refine UL (Qb (h ab s σ H Pr Z _ I E ht) λu s1 ⟨v,H1,r,Z1,I1,rv,E1,p⟩=>UL (wpAny_standAt (V0 ?_)));obtain⟨b,rfl,p⟩:=sE p;obtain⟨_,e1,p1⟩:=E1.head_d;cases e1;obtain rfl:=QM.inv_bl p1;cases rv;exact Vt ⟨H1,Z1,I1,E1.tail,p⟩
end
section
variable{X:Cx}{e a b c:Expr}{rest:List Expr}{pos:Pos}{ta tb:W L}{tA tB:W Bool}
def QV(X:Cx)(e:Expr)(t:W Bool):Prop :=
 ∀(whole:Sem Value)(ab:List (Addr×Obj))(s:Shared)(σ:St)(H Pr:Hp)(Z:Ev)(k4:Bool->Ev->Prop),P7 X ab σ H s->aF X.K Pr H σ Z->t Z k4->wpAny (model X.prog X.w) X.A (isTrue e X.env whole) (EB X ab σ Pr k4) X.xe s
theorem QV.pb{t:W Bool}(h:QV X e t):PB X e t:=h _
def FQ(t u:W Bool):W Bool:=λZ k4=>t Z λc Z1=>if c=true then u Z1 k4 else k4 false Z1
def QW(t u:W Bool):W Bool:=λZ k4=>t Z λc Z1=>if c=true then k4 true Z1 else u Z1 k4
def nD(t:W Bool):W Bool:=λZ k4=>t Z λc Z1=>k4 (!c) Z1
theorem l6(ha:PB X a tA):QV X (.BoolOp .And [a] pos) tA:=by
 intro wh ab s σ H Pr Z k4 I E h;refine isTrue_and (Qb (ha ab s σ H Pr Z k4 I E h) λc s1 e=>?_)
 cases c with
 |true=>exact isTrue_and_nil e
 |false=>exact e
theorem cM(ha:PB X a tA):QV X (.BoolOp .Or [a] pos) tA:=by
 intro wh ab s σ H Pr Z k4 I E h;refine isTrue_or (Qb (ha ab s σ H Pr Z k4 I E h) λc s1 e=>?_)
 cases c with
 |false=>exact isTrue_or_nil e
 |true=>exact e
theorem nE(ha:PB X a tA)(hb:QV X (.BoolOp .And (b::rest) pos) tB):QV X (.BoolOp .And (a::b::rest) pos) (FQ tA tB):=by
 intro wh ab s σ H Pr Z k4 I E h;refine isTrue_and (Qb (ha ab s σ H Pr Z _ I E h) λc s1 h_=>h_.on λH1 Z1 I1 E1 q1=>?_)
 cases c with
 |true=>exact hb wh ab s1 σ H1 Pr Z1 k4 I1 E1 q1
 |false=>exact⟨H1,Z1,I1,E1,q1⟩
theorem dh(ha:PB X a tA)(hb:QV X (.BoolOp .Or (b::rest) pos) tB):QV X (.BoolOp .Or (a::b::rest) pos) (QW tA tB):=by
 intro wh ab s σ H Pr Z k4 I E h;refine isTrue_or (Qb (ha ab s σ H Pr Z _ I E h) λc s1 h_=>h_.on λH1 Z1 I1 E1 q1=>?_)
 cases c with
 |true=>exact⟨H1,Z1,I1,E1,q1⟩
 |false=>exact hb wh ab s1 σ H1 Pr Z1 k4 I1 E1 q1
theorem bT(ha:PB X a tA):PB X (.UnaryOp .Not a pos) (nD tA):=by intro ab s σ H Pr Z k4 I E h;exact isTrue_not (Qb (ha ab s σ H Pr Z (λc Z1=>k4 (!c) Z1) I E h) λ_ _ h_=>h_.on λH1 Z1 I1 E1 q=>⟨H1,Z1,I1,E1,q⟩)
theorem QX{op:CmpOp}{o:QT}(ho:QU X (compareOp op) o)(ha:PL X a ta)(hb:PL X b tb)(hm:behindInMarks op b=false):PB X (.Compare a [op] [b] pos) (aN (ay o ta tb)):=by intro ab s σ H Pr Z k4 I E h;refine wpAny_isTrue_Compare1 (two (R:=λdx dy Z2=>o dx dy λr=>AR r λb=>k4 b Z2) ha hb I E h λv u s2 x y H2 dx dy Z2 I2 r1 r2 E2 p1 p2 q=>?_) hm;refine Qb (ho ab s2 σ H2 Pr Z2 x y v u dx dy _ I2 r1 r2 E2.tail.tail p1 p2 q) λw s3 ⟨z,H3,r,I3,rz,E3,p⟩=>?_;obtain⟨b,rfl,p⟩:=sE p;obtain⟨_,e1,p1⟩:=E3.head_d;cases e1;obtain rfl:=QM.inv_bl p1;cases rz;exact Vt ⟨H3,Z2,I3,E3.tail,p⟩
def nF(ta tb:W L):W L:=λZ k4=>ta Z λr Z1=>AR r λc=>if c=true then tb Z1 k4 else k4 (.d (.bl false)) Z1
def NS(ta tb:W L):W L:=λZ k4=>ta Z λr Z1=>AR r λc=>if c=true then k4 (.d (.bl true)) Z1 else tb Z1 k4
def Dk(t:W Bool):W L:=λZ k4=>t Z λc Z1=>k4 (.d (.bl (!c))) Z1
theorem mH {op} {t:W L} (h:PL X a t):PL X (.BoolOp op [a] pos) t:=λab s σ H Pr Z k4 I E hw=>BoolOp_one (h ab s σ H Pr Z k4 I E hw)
theorem EL.bl{ab:List (Addr×Obj)}{σ:St}{Pr:Hp}{k4:Bool->Ev->Prop}{u:Value}{s':Shared}(h:EL X ab σ Pr (λr Z=>AR r λb=>k4 b Z) u s') :
  ∃H' b Z',u=.bool b/\P7 X ab σ H' s'/\aF X.K Pr H' σ Z'/\k4 b Z':=by
 obtain⟨v,H',r,Z',I,rv,E,p⟩:=h;obtain⟨b,rfl,p⟩:=sE p;obtain⟨_,e1,p1⟩:=E.head_d;cases e1;obtain rfl:=QM.inv_bl p1;cases rv;exact⟨H',b,Z',rfl,I,E.tail,p⟩
theorem i4(ha:PL X a ta)(hb:PL X (.BoolOp .And (b::rest) pos) tb):PL X (.BoolOp .And (a::b::rest) pos) (nF ta tb):=by
 intro ab s σ H Pr Z k4 I E h;refine BoolOp_and (Qb (ha ab s σ H Pr Z _ I E h) λv s1 q=>?_)
 obtain⟨H1,c,Z1,rfl,I1,E1,q1⟩:=EL.bl (k4:=λc Z1=>if c=true then tb Z1 k4 else k4 (.d (.bl false)) Z1) q
 refine Vt ?_
 cases c with
 |true=>exact hb ab s1 σ H1 Pr Z1 k4 I1 E1 q1
 |false=>exact⟨.bl false,H1,_,Z1,I1,rfl,E1.cons_d (.bl false),q1⟩
theorem NT(ha:PL X a ta)(hb:PL X (.BoolOp .Or (b::rest) pos) tb):PL X (.BoolOp .Or (a::b::rest) pos) (NS ta tb):=by
 intro ab s σ H Pr Z k4 I E h;refine BoolOp_or (Qb (ha ab s σ H Pr Z _ I E h) λv s1 q=>?_)
 obtain⟨H1,c,Z1,rfl,I1,E1,q1⟩:=EL.bl (k4:=λc Z1=>if c=true then k4 (.d (.bl true)) Z1 else tb Z1 k4) q
 refine Vt ?_
 cases c with
 |false=>exact hb ab s1 σ H1 Pr Z1 k4 I1 E1 q1
 |true=>exact⟨.bl true,H1,_,Z1,I1,rfl,E1.cons_d (.bl true),q1⟩
theorem Dl(ha:PL X a ta):PL X (.UnaryOp .Not a pos) (Dk (aN ta)):=by intro ab s σ H Pr Z k4 I E h;refine UnaryOp_ (Qb (ha ab s σ H Pr Z _ I E h) λv s1 q=>?_);obtain⟨H1,c,Z1,rfl,I1,E1,q1⟩:=EL.bl (k4:=λc Z1=>k4 (.d (.bl (!c))) Z1) q;exact not_of (Vt ⟨.bl (!c),H1,_,Z1,I1,rfl,E1.cons_d (.bl _),q1⟩)
def Dm(t:W Bool)(ta tb:W L):W L:=λZ k4=>t Z λc Z1=>if c=true then ta Z1 k4 else tb Z1 k4
theorem oM(hc:PB X c tA)(ha:PL X a ta)(hb:PL X b tb):PL X (.IfExp c a b pos) (Dm tA ta tb):=by
 intro ab s σ H Pr Z k4 I E h;refine wpAny_IfExp (Qb (hc ab s σ H Pr Z _ I E h) λd s1 h_=>h_.on λH1 Z1 I1 E1 q1=>?_)
 cases d with
 |true=>exact ha ab s1 σ H1 Pr Z1 k4 I1 E1 q1
 |false=>exact hb ab s1 σ H1 Pr Z1 k4 I1 E1 q1
def QY(op:D->(L->Prop)->Prop)(t:W L):W L:=λZ k4=>t Z λx Z1=>QS x λdx=>op dx λr=>k4 r Z1
def FR:D->(L->Prop)->Prop
 |.int i,k=>k (.d (.int (-i)))
 |_,_=>False
theorem LP(ha:PL X a ta):PL X (.UnaryOp .USub a pos) (QY FR ta):=by
 intro ab s σ H Pr Z k4 I E h;refine UnaryOp_ (Qb (ha ab s σ H Pr Z _ I E h) λv s1 q=>?_);obtain⟨x,H1,dx,Z1,I1,r1,E1,q1⟩:=EL.frz (k4:=λdx Z1=>FR dx λr=>k4 r Z1) q;obtain⟨_,e1,p1⟩:=E1.head_d;cases e1
 cases p1 with
 | int i =>
  exact Qb (Lo ab s1 σ H1 _ v (λw H'=>w=.int (-i)/\H'=H1) I1 r1 ⟨i,rfl,rfl,rfl⟩) λu s2 ⟨w,H2,I2,r2,e1,e2⟩=>by subst e1 e2;exact⟨_,_,_,Z1,I2,r2,E1.tail.cons_d (.int _),q1⟩
 |_=>exact q1.elim
variable{st:Stmt}{sts:List Stmt}{t u:W Fl}
def bA:W Fl:=λZ k4=>k4 .nx Z
def aW(t u:W Fl):W Fl:=λZ k4=>t Z λf Z1=>match f with
 |.nx=>u Z1 k4
 |f=>k4 f Z1
theorem aU:QR X [] bA:=λ_ _ σ H Pr Z k4 I E h=>wpAny_execs_nil ⟨σ,H,Z,I,E,h⟩
theorem ai(h1:PM X st t)(h2:QR X sts u):QR X (st::sts) (aW t u):=by
 intro ab s σ H Pr Z k4 I E h;refine wpAny_execs_cons (Qb (h1 ab s σ H Pr Z _ I E h) λf s1 q=>?_)
 cases f with
 | next =>
  obtain⟨σ',H',Z',I',E',q⟩:=q;exact h2 ab s1 σ' H' Pr Z' k4 I' E' q
 |ret v=>exact q
 |brk=>exact q
 |cont=>exact q
theorem ao(h1:PM X st t):QR X [st] t:=by
 intro ab s σ H Pr Z k4 I E h;refine wpAny_execs_cons (Qb (h1 ab s σ H Pr Z _ I E h) λf s1 q=>?_)
 cases f with
 |next=>exact wpAny_execs_nil q
 |ret v=>exact q
 |brk=>exact q
 |cont=>exact q
def sF(t:W L):W Fl:=λZ k4=>t Z λ_ Z1=>k4 .nx Z1
theorem jt{te:W L}(he:PL X e te)(hs:swapsWith e none pos.line X.env=pure false:=by rfl):PM X (.Expr e pos) (sF te):=by intro ab s σ H Pr Z k4 I E h;exact wpAny_Expr_any (Qb (he ab s σ H Pr Z _ I E h) λv s1 h_=>h_.on λx H1 r Z1 I1 r1 E1 q1=>⟨σ,H1,Z1,I1,E1.tail,q1⟩) I.quiet hs
def bu(t:W L):W Fl:=λZ k4=>t Z λr Z1=>k4 (.rt r) Z1
theorem aB{te:W L}(he:PL X e te):PM X (.Return (some e) pos) (bu te):=by intro ab s σ H Pr Z k4 I E h;exact wpAny_Return_some (Qb (he ab s σ H Pr Z _ I E h) λv s1 h_=>h_.on λx H1 r Z1 I1 r1 E1 q1=>⟨x,σ,H1,r,Z1,σ,I1,r1,E1,q1⟩)
def QZ(c:W Bool)(t u:W Fl):W Fl:=λZ k4=>c Z λb Z1=>if b=true then t Z1 k4 else u Z1 k4
theorem bG{sa sb:List Stmt}(hc:PB X c tA)(ha:QR X sa t)(hb:QR X sb u):PM X (.If c sa sb pos) (QZ tA t u):=by
 intro ab s σ H Pr Z k4 I E h;refine wpAny_If (Qb (hc ab s σ H Pr Z _ I E h) λd s1 h_=>h_.on λH1 Z1 I1 E1 q1=>?_)
 cases d with
 |true=>exact ha ab s1 σ H1 Pr Z1 k4 I1 E1 q1
 |false=>exact hb ab s1 σ H1 Pr Z1 k4 I1 E1 q1
def Dn:W Fl:=λ_ _=>False
theorem AS:PM X st Dn:=λ_ _ _ _ _ _ _ _ _ h=>h.elim
theorem aF.forget{K:PySem.W.Frag}{Pr H:Hp}{σ:St}{Z:Ev}(E:aF K Pr H σ Z)(i:Nat)(v:Option V):aF K Pr H (σ.set i v) (Z.set i .un):=by
 have hsub:(owns (Z.set i .un)).Sublist (owns Z):=by
  have:∀(Z:Ev)(i:Nat),(owns (Z.set i .un)).Sublist (owns Z):=by
   intro Z
   induction Z with
   |nil=>intro i;exact WB _
   | cons l Z ih =>
    intro i
    cases i with
    | zero =>
     show(owns Z).Sublist (owns (l::Z));rw[aS];exact VX _ _
    | succ i =>
     show(owns (l::Z.set i .un)).Sublist (owns (l::Z));rw[aS,aS];exact(WB _).append (ih i)
  exact this Z i
 exact⟨E.sub,E.nd.sublist hsub,λa h=>E.off a (hsub.subset h),Paired.set2 True.intro i E.sl⟩
theorem aF.store{K:PySem.W.Frag}{Pr H:Hp}{σ:St}{Z:Ev}{v:Option V}{l:L}(E:aF K Pr H (v::σ) (l::Z)){i:Nat}(hi:i<σ.length):aF K Pr H (σ.set i v) (Z.set i l):=by have E1:=E.forget (i+1) v;have E2:aF K Pr H (v::σ.set i v) (l::Z.set i .un):=E1;have hl:=E.tail.len;have E3:=E2.back (i:=i) (by rw[Vo xL]) (by rw[Vo hi]);rw[Wd]at E3;exact E3
def bz(i:Nat)(t:W L):W Fl:=λZ k4=>t Z λr Z1=>k4 .nx (Z1.set i r)
theorem aD{i:Nat}{x:Str}{te:W L}{pos':Pos}(hN:X.N.Nodup)(hi:X.N[i]?=some x)(hx:P6 X.env.scope x)(he:PL X e te)(hs:swapsWith e (some (.Name x pos')) pos.line X.env=pure false:=by rfl)(hf:X.fn x=true∨X.env.scope.names.lookup x=some .local:=by first|exact .inl rfl|exact .inr rfl|assumption) :
  PM X (.Assign [.Name x pos'] e pos) (bz i te):=by
 intro ab s σ H Pr Z k4 I E h;refine wpAny_Assign_Name (Qb (he ab s σ H Pr Z _ I E h) λv s1 h_=>h_.on λy H1 r Z1 I1 r1 E1 q1=>?_) hs;exact rN I1 hN hi hx r1 (λs2 I2=>⟨_,H1,_,I2,E1.store (by rw[I1.len];exact(k5.mp hi).1),q1⟩) hf
end
theorem oN{a b:Ev}(h:a.Perm b):(owns a).Perm (owns b):=by
 induction h with
 |nil=>exact .refl _
 |cons x _ ih=>rw[aS,aS];exact ih.append_left _
 | swap x y l =>
  rw[aS,aS,aS,aS,<- Vs,<- Vs];exact List.Perm.append_right _ Vy
 |trans _ _ h1 h2=>exact h1.trans h2
theorem FT{a b:Ev}(h:a.Sublist b):(owns a).Sublist (owns b):=by
 induction h with
 |slnil=>exact .refl _
 |cons x _ ih=>rw[aS];exact ih.trans (VX _ _)
 |cons_cons x _ ih=>rw[aS,aS];exact(WB _).append ih
def tL(K:PySem.W.Frag)(t:W L):TE:=λσ H Q=>∃Pr Z k4,aF K Pr H σ Z/\t Z k4/\∀v H' r Z',aF K Pr H' (some v::σ) (r::Z')->k4 r Z'->Q v H'
def tW(K:PySem.W.Frag)(t:W Fl):TS:=λD σ H=>∃Pr Z k4,aF K Pr H σ Z/\t Z k4/\(∀σ' H' Z',aF K Pr H' σ' Z'->k4 .nx Z'->D.nx σ' H')/\(∀σ' H' Z',aF K Pr H' σ' Z'->k4 .bk Z'->D.bk σ' H')/\(∀σ' H' Z',aF K Pr H' σ' Z'->k4 .ct Z'->D.ct σ' H') /\
 ∀v τ H' r Z',aF K Pr H' (some v::τ) (r::Z')->k4 (.rt r) Z'->D.rt v H'
noncomputable def Q0(K:PySem.W.Frag)(t:W Bool):TT:=λσ H Q=>∃Pr Z k4,aF K Pr H σ Z/\t Z k4/\∀b H' Z',aF K Pr H' σ Z'->k4 b Z'->Q b H'
section
variable{X:Cx}{e a b:Expr}{es:List Expr}{pos:Pos}{st:Stmt}{sts:List Stmt}{t u:W Fl}
theorem PL.pe{t:W L}(h:PL X e t):PE X e (tL X.K t):=λab s σ H Q I ⟨Pr,Z,k4,E,ht,q⟩ =>
 Qb (h ab s σ H Pr Z k4 I E ht) λu s1 h_=>h_.on λv H1 r Z1 I1 rv E1 p=>⟨v,H1,I1,rv,q v H1 r Z1 E1 p⟩
theorem PB.pt{t:W Bool}(h:PB X e t):PT X e (Q0 X.K t):=λab s σ H Q I ⟨Pr,Z,k4,E,ht,q⟩ =>
 Qb (h ab s σ H Pr Z k4 I E ht) λb s1 h_=>h_.on λH1 Z1 I1 E1 p=>⟨H1,I1,q b H1 Z1 E1 p⟩
theorem QR.pss(h:QR X sts t):Qa X sts (tW X.K t):=λab s σ H D I ⟨Pr,Z,k4,E,ht,q1,q2,q3,q4⟩ =>
 Qb (h ab s σ H Pr Z k4 I E ht) λf s1 q=>by
  cases f with
  |next=>obtain⟨σ',H',Z',I',E',p⟩:=q;exact⟨σ',H',I',q1 σ' H' Z' E' p⟩
  |brk=>obtain⟨σ',H',Z',I',E',p⟩:=q;exact⟨σ',H',I',q2 σ' H' Z' E' p⟩
  |cont=>obtain⟨σ',H',Z',I',E',p⟩:=q;exact⟨σ',H',I',q3 σ' H' Z' E' p⟩
  |ret u=>obtain⟨v,σ',H',r,Z',τ,I',rv,E',p⟩:=q;exact⟨v,σ',H',I',rv,q4 v τ H' r Z' E' p⟩
noncomputable def LQ(K:PySem.W.Frag)(Pr:Hp)(k4:Fl->Ev->Prop):K4 where
 nx:=λσ' H'=>∃Z',aF K Pr H' σ' Z'/\k4 .nx Z'
 rt:=λv H'=>∃τ r Z',aF K Pr H' (some v::τ) (r::Z')/\k4 (.rt r) Z'
 bk:=λσ' H'=>∃Z',aF K Pr H' σ' Z'/\k4 .bk Z'
 ct:=λσ' H'=>∃Z',aF K Pr H' σ' Z'/\k4 .ct Z'
theorem PM.of{ts:TS}(h:PS X st ts)(q:∀σ H Pr Z k4,σ.length=X.N.length->aF X.K Pr H σ Z->t Z k4->ts (LQ X.K Pr k4) σ H):PM X st t:=λab s σ H Pr Z k4 I E ht =>
 Qb (h ab s σ H _ I (q σ H Pr Z k4 I.len E ht)) λf s1 q=>by
  cases f with
  |next=>obtain⟨σ',H',I',Z',E',p⟩:=q;exact⟨σ',H',Z',I',E',p⟩
  |brk=>obtain⟨σ',H',I',Z',E',p⟩:=q;exact⟨σ',H',Z',I',E',p⟩
  |cont=>obtain⟨σ',H',I',Z',E',p⟩:=q;exact⟨σ',H',Z',I',E',p⟩
  |ret u=>obtain⟨v,σ',H',I',rv,τ,r,Z',E',p⟩:=q;exact⟨v,σ',H',r,Z',τ,I',rv,E',p⟩
theorem aF.narrow{K:PySem.W.Frag}{Pr H1 H:Hp}{σ1 σ:St}{Z1 Z:Ev}(E1:aF K Pr H1 σ1 Z1)(E:aF K (bE H1 Z1) H σ Z):aF K Pr H σ Z:=by
 refine⟨λb o e=>E.sub b o ?_,E.nd,λa ha=>?_,E.sl⟩
 . unfold bE;rw[if_neg,E1.sub b o e];intro hm;have z:=E1.off b hm;rw[e]at z;cases z
 .
  have z:=E.off a ha;unfold bE at z;by_cases hm:a∈owns Z1
  . exact E1.off a hm
  .
   rw[if_neg hm]at z
   cases q:Pr a with
   |none=>rfl
   |some o=>rw[E1.sub a o q]at z;cases z
def aH:W (List L):=λZ k4=>k4 [] Z
def aq(t:W L)(r:W (List L)):W (List L):=λZ k4=>t Z λx Z1=>r Z1 λxs Z2=>k4 (x::xs) Z2
def pS(i:Nat)(r:W (List L)):W (List L):=λZ k4=>match Z[i]? with
 |some (.own _ _)=>r Z λxs Z2=>k4 (.un::xs) Z2
 |_=>False
theorem ag:QO X [] [] aH:=λ_ ab s σ H Pr Z k4 I E h=>Calls.spliced_nil ⟨[],H,[],Z,I,.nil,rfl,rfl,E,λk i e=>by simp at e,h⟩
theorem af{bs:List (Option Nat)}{r:W (List L)}{t:W L}(ha:PL X e t)(hr:QO X es bs r)(hs:starEach (e::es) X.env=(false,eval e X.env)::starEach es X.env:=by rfl):QO X (e::es) (none::bs) (aq t r):=by
 intro pos ab s σ H Pr Z k4 I E h;rw[hs];show wpAny _ _ (spliced ((false,eval e X.env)::backTo pos (starEach es X.env))) _ _ s;refine Calls.spliced_cons (Qb (ha ab s σ H Pr Z _ I E h) λu s1 h_=>h_.on λx H1 l Z1 I1 r1 E1 q1=>?_);refine Qb (hr pos ab s1 σ H1 _ Z1 _ I1 E1.tail.wide q1) λus s2 h_=>h_.on λvs H2 ls Z2 I2 r2 hl hb E2 hv q2=>?_;have E3:aF X.K Pr H2 (vs.map some++(some x::σ)) (ls++(l::Z2)):=aF.step (τ:=[some x]) (lam:=[l]) E1 rfl E2 (by simp[hl])
 have E4:aF X.K Pr H2 (some x::(vs.map some++σ)) (l::(ls++Z2)):=by
  have pm:(owns (ls++(l::Z2))).Perm (owns (l::(ls++Z2))):=oN List.perm_middle;have s1:=Paired.unapp (by simp[hl]) E3.sl;obtain⟨s1,s2⟩:=s1
  cases s2 with
  |cons q t=>exact⟨E3.sub,pm.nodup_iff.mp E3.nd,λa h=>E3.off a (pm.mem_iff.mpr h),.cons q (Paired.app s1 t)⟩
 refine⟨x::vs,H2,l::ls,Z2,I2,.cons r1 r2,by simp[hl],by simp[hb],E4,λk i e=>?_,q2⟩
 cases k with
 |zero=>simp at e
 |succ k=>simpa using hv k i (by simpa using e)
theorem bH(i:Nat){x:Str}{p:Pos}{bs:List (Option Nat)}{r:W (List L)}(hr:QO X es bs r)(hN:X.N[i]?=some x:=by rfl)(hv:P5 X.env.scope x:=by first | exact Or.inl rfl | exact Or.inr (Or.inl rfl) | exact Or.inr (Or.inr rfl)) (hd:(x == ("__debug__" : Str))=false:=by decide)
  (hcd:(x == ("__classdict__" : Str))=false:=by decide) (hs:starEach (.Name x p::es) X.env=(false,eval (.Name x p) X.env)::starEach es X.env:=by rfl):QO X (.Name x p::es) (some i::bs) (pS i r):=by
 intro pos ab s σ H Pr Z k4 I E h;unfold pS at h
 cases q:Z[i]? with
 |none=>rw[q]at h;exact h.elim
 | some l =>
  rw[q]at h
  cases l with
  |un=>exact h.elim
  |d y=>exact h.elim
  |bx _ _=>exact h.elim
  |dic _ _=>exact h.elim
  | own a xs =>
   obtain⟨sv,hsl,sl⟩:=E.slot q;obtain⟨rfl,_⟩:=sl;rw[hs];show wpAny _ _ (spliced ((false,eval (.Name x p) X.env)::backTo pos (starEach es X.env))) _ _ s;refine Calls.spliced_cons (Qb (ke hN hv hd hcd ab s σ H (λw H'=>w=.ref a/\H'=H) I ⟨.ref a,hsl,rfl,rfl⟩) λu s1 ⟨w,H1,I1,r1,e1,e2⟩=>?_);subst e1 e2;refine Qb (hr pos ab s1 σ H1 Pr Z _ I1 E h) λus s2 ⟨vs,H2,ls,Z2,I2,r2,hl,hb,E2,hv,q2⟩=>?_;refine⟨.ref a::vs,H2,.un::ls,Z2,I2,.cons r1 r2,by simp[hl],by simp[hb],E2.cons_un,λk j e=>?_,q2⟩
   cases k with
   |zero=>simp at e;subst e;exact⟨rfl,.ref a,rfl,hsl⟩
   |succ k=>simpa using hv k j (by simpa using e)
def K7:List L->(List D->Prop)->Prop
 |[],k=>k []
 |.d x::r,k=>K7 r λxs=>k (x::xs)
 |_::_,_=>False
theorem sG:∀{ls:List L}{k:List D->Prop},K7 ls k->∃xs,ls=xs.map .d/\k xs
 |[],_,h=>⟨[],rfl,h⟩
 | .d x::r,k,h=>by obtain⟨xs,e,q⟩:=sG (ls:=r) h;exact⟨x::xs,by rw[e];rfl,q⟩
 |.un::_,_,h=>h.elim
 |.own _ _::_,_,h=>h.elim
theorem sH{K:PySem.W.Frag}{Pr H:Hp}{σ:St}{Z:Ev}:∀{vs:List V}{xs:List D},vs.length=xs.length->aF K Pr H (vs.map some++σ) (xs.map .d++Z)->bO K H vs xs
 |[],[],_,_=>.nil
 | v::vs,x::xs,hl,E=>by obtain⟨w,e,r⟩:=aF.head_d (v:=some v) (x:=x) E;cases e;exact .cons r (sH (by simpa using hl) (aF.tail (v:=some v) (l:=.d x) E))
 |[],_::_,hl,_=>by simp at hl
 |_::_,[],hl,_=>by simp at hl
def ju(t:W (List L)):W L:=λZ k4=>t Z λls Z1=>K7 ls λxs=>xs.length<=sizeLine/\k4 (.d (.tup xs)) Z1
def qL(t:W (List L)):W L:=λZ k4=>t Z λls Z1=>K7 ls λxs=>xs.length<=sizeLine/\∀a,k4 (.own a xs) Z1
theorem bq {x1} {bs:List (Option Nat)} {t:W (List L)} (h:QO X es bs t):PL X (.Tuple es x1 pos) (ju t):=by
 intro ab s σ H Pr Z k4 I E hq;refine wpAny_Tuple_spliced (Qb (h pos ab s σ H Pr Z _ I E hq) λus s1 h_=>h_.on λvs H1 ls Z1 I1 r hl hb E1 hv q=>?_);obtain⟨xs,rfl,z,q⟩:=sG q;have b0:vs.length=xs.length:=by simpa using hl
 refine⟨by rw[<- r.length,b0];exact z,?_⟩;have hf:H1 s1.heap.objs.size=none:=I1.hok.fresh (US _);refine⟨.ref s1.heap.objs.size,PY H1 s1.heap.objs.size (.tup vs),_,Z1,I1.laid (t':=s1.toks) (λb u e=>tu _ e) (US _) ?_,rfl,(E1.drop (by simp[b0])).cons_tup hf (sH b0 E1),q⟩;exact⟨by rw[b0];exact z,us,r,⟨_,U3 _ rfl,rfl,_,rfl⟩⟩
theorem cC{bs:List (Option Nat)}{t:W (List L)}(h:QO X es bs t):PL X (.List es pos) (qL t):=by
 intro ab s σ H Pr Z k4 I E hq;refine wpAny_List_spliced (Qb (h pos ab s σ H Pr Z _ I E hq) λus s1 h_=>h_.on λvs H1 ls Z1 I1 r hl hb E1 hv q=>?_);obtain⟨xs,rfl,z,q⟩:=sG q;have b0:vs.length=xs.length:=by simpa using hl
 refine⟨by rw[<- r.length,b0];exact z,?_⟩;have hf:H1 s1.heap.objs.size=none:=I1.hok.fresh (US _);refine⟨.ref s1.heap.objs.size,PY H1 s1.heap.objs.size (.lst vs),_,Z1,I1.laid (t':=s1.toks) (λb u e=>tu _ e) (US _) ?_,rfl,(E1.drop (by simp[b0])).cons_own hf (sH b0 E1),q _⟩;exact⟨by rw[b0];exact z,us,0,r,U3 _ rfl⟩
abbrev FS:=List L->(L->List L->Prop)->Prop
noncomputable def spF(K:PySem.W.Frag)(n:Nat)(fs:FS):Sp:=λvs H Q _=>vs.length=n/\∃Pr ls k4,aF K Pr H (vs.map some) ls/\fs ls k4/\∀v H' r ls',aF K Pr H' (some v::vs.map some) (r::ls')->k4 r ls'->Q v H'
theorem aF.swap{K:PySem.W.Frag}{Pr H:Hp}{σ τ:St}{Z lam:Ev}(hl:τ.length=lam.length)(E:aF K Pr H (τ++σ) (lam++Z)):aF K Pr H (σ++τ) (Z++lam):=by have pm:(owns (lam++Z)).Perm (owns (Z++lam)):=oN Vy;obtain⟨s1,s2⟩:=Paired.unapp hl E.sl;exact⟨E.sub,pm.nodup_iff.mp E.nd,λa h=>E.off a (pm.mem_iff.mpr h),Paired.app s2 s1⟩
theorem HR{K:PySem.W.Frag}{Pr H H':Hp}{σ τ:St}{Z ls ls':Ev}{v:Option V}{r:L}(hl:τ.length=ls.length)(E:aF K Pr H (τ++σ) (ls++Z))(E':aF K (bE H ls) H' (v::τ) (r::ls')):aF K Pr H' (v::(τ++σ)) (r::(ls'++Z)):=by
 have hρ:σ.length=Z.length:=(E.drop hl).len;have z:=aF.step (τ:=σ) (σ:=τ) (lam:=Z) (Z:=ls) (w:=[v]) (μ:=[r]) (E.swap hl) hρ E' rfl;have hl':τ.length=ls'.length:=by have:=E'.len;simpa using this
 obtain⟨s1,s2⟩:=Paired.unapp (a:=[v]) (b:=[r]) rfl z.sl;obtain⟨s2,s3⟩:=Paired.unapp hρ s2;have pm:(owns ([r]++(Z++ls'))).Perm (owns (r::(ls'++Z))):=oN (List.Perm.cons r (Vy (l₁:=Z) (l₂:=ls')));exact⟨z.sub,pm.nodup_iff.mp z.nd,λa h=>z.off a (pm.mem_iff.mpr h),Paired.app s1 (Paired.app s3 s2)⟩
def aI(fs:FS)(t:W (List L)):W L:=λZ k4=>t Z λls Z1=>fs ls λr _=>k4 r Z1
def b8(fs:FS)(k i:Nat)(t:W (List L)):W L:=λZ k4=>t Z λls Z1=>match Z1[i]? with
 |some (.own a xs)=>fs (ls.set k (.own a xs)) λr ls'=>∃ys,ls'[k]?=some (.own a ys)/\k4 r (Z1.set i (.own a ys))
 |_=>False
section
variable{CX:Qu}{k n:Nat}{f:Addr}{fd:FuncData}{ps:List Str}{fs:FS}{E:XK}{x:Str}{p:Pos}{bs:List (Option Nat)}{t:W (List L)}
theorem aF.drop1{K:PySem.W.Frag}{Pr H:Hp}{σ τ:St}{Z lam:Ev}{v:Option V}{r:L}(hl:τ.length=lam.length)(E:aF K Pr H (v::(τ++σ)) (r::(lam++Z))):aF K Pr H (v::σ) (r::Z):=by obtain⟨s1,s2⟩:=Paired.unapp (a:=[v]) (b:=[r]) rfl E.sl;obtain⟨s2,s3⟩:=Paired.unapp hl s2;have sb:(owns (r::Z)).Sublist (owns (r::(lam++Z))):=FT (List.Sublist.cons_cons r (VX _ _));exact⟨E.sub,E.nd.sublist sb,λa h=>E.off a (sb.subset h),Paired.app s1 s3⟩
theorem Ji(F:FnOk X.prog X.w X.K X.mg X.base CX k f fd ps (spF X.K n fs))(hr:mv k X.A)(hg:Gl X x)(hm:X.mg x=some (.ref f))(hk:PySem.W.keepIn X.K (.ref f)=true)(hb:zd X.K fd ps [])(hx:AM CX X E)
  (ha:QO X (e::es) bs t) (hn:bs.length=n) (hdb:(x == ("__debug__" : Str))=false:=by decide) (he:starEach (e::es) X.env=(false,eval e X.env)::starEach es X.env:=by rfl) (hpl:(backTo pos (starEach es X.env)).any (·.1)=false:=by rfl) :
  PL X (.Call (.Name x p) (e::es) [] pos) (aI fs t):=by
 intro ab s σ H Pr Z k4 I E0 h;refine Ws (zb I hg hm ?_ hdb);refine PySem.W.callWith_K (h₀:=X.base) I.ok.mod.kin hk (Qb (ha pos ab s σ H Pr Z _ I E0 h) λus s1 h_=>h_.on λvs H1 ls Z1 I1 r hl hbl E1 hv q=>⟨I1.kIn,?_⟩) he hpl;have hl':(vs.map some).length=ls.length:=by simp[hl]
 refine Qb (HJ (Q:=λv H'=>∃r Z',aF X.K Pr H' (some v::σ) (r::Z')/\k4 r Z') F hr hb .nil hx I1 r ?_) λu s2 ⟨v,H2,I2,rv,r,Z',E2,p⟩=>⟨v,H2,r,Z',I2,rv,E2,p⟩;rw[VC];refine⟨hbl.trans hn,bE H1 ls,ls,_,(E1.left hl').wide,q,λv H' r ls' E2 p=>⟨r,Z1,?_,p⟩⟩;have z:=HR hl' E1 E2;have hl2:(vs.map some).length=ls'.length:=by have:=E2.len;simpa using this
 exact z.drop1 hl2
theorem FU(F:FnOk X.prog X.w X.K X.mg X.base CX k f fd ps (spF X.K n fs))(hr:mv k X.A)(hg:Gl X x)(hm:X.mg x=some (.ref f))(hk:PySem.W.keepIn X.K (.ref f)=true)(hb:zd X.K fd ps [])(hx:AM CX X E)
  (j i:Nat) (ha:QO X (e::es) bs t) (hj:bs[j]?=some (some i)) (hn:bs.length=n) (hdb:(x == ("__debug__" : Str))=false:=by decide) (he:starEach (e::es) X.env=(false,eval e X.env)::starEach es X.env:=by rfl) (hpl:(backTo pos (starEach es X.env)).any (·.1)=false:=by rfl) :
  PL X (.Call (.Name x p) (e::es) [] pos) (b8 fs j i t):=by
 intro ab s σ H Pr Z k4 I E0 h;refine Ws (zb I hg hm ?_ hdb);refine PySem.W.callWith_K (h₀:=X.base) I.ok.mod.kin hk (Qb (ha pos ab s σ H Pr Z _ I E0 h) λus s1 h_=>h_.on λvs H1 ls Z1 I1 r hl hbl E1 hv q=>⟨I1.kIn,?_⟩) he hpl;have hl':(vs.map some).length=ls.length:=by simp[hl]
 refine Qb (HJ (Q:=λv H'=>∃r Z',aF X.K Pr H' (some v::σ) (r::Z')/\k4 r Z') F hr hb .nil hx I1 r ?_) λu s2 ⟨v,H2,I2,rv,r,Z',E2,p⟩=>⟨v,H2,r,Z',I2,rv,E2,p⟩;rw[VC]
 try dsimp only at q
 cases qi:Z1[i]? with
 |none=>rw[qi]at q;exact q.elim
 | some l =>
  rw[qi]at q
  cases l with
  |un=>exact q.elim
  |d y=>exact q.elim
  |bx _ _=>exact q.elim
  |dic _ _=>exact q.elim
  | own a xs =>
   obtain⟨hun,w,hw,hσ⟩:=hv j i hj;obtain⟨sv,hs2,rfl,_⟩:=(E1.drop hl').slot qi;rw[hσ]at hs2;cases hs2;have hjl:j<ls.length:=(k5.mp hun).1;have hjv:j<vs.length:=by omega
   have hil:i<Z1.length:=(k5.mp qi).1;have E2:=E1.out (i:=ls.length+i) (a:=a) (xs:=xs) (by rw[Vb xL];simpa using qi);rw[Wx _ _ xL,Vj]at E2;have E3:=E2.back (i:=j) (by rw[U9 hjl];exact hun) (by rw[U9 (by simp;omega)];simp[hw]);rw[Wf _ _ hjl]at E3;have hl3:(vs.map some).length=(ls.set j (.own a xs)).length:=by simp[hl]
   refine⟨hbl.trans hn,bE H1 (ls.set j (.own a xs)),_,_,(E3.left hl3).wide,q,λv H' r ls' E4 p=>?_⟩;obtain⟨ys,hys,p⟩:=p;refine⟨r,Z1.set i (.own a ys),?_,p⟩;have z:=HR hl3 E3 E4;have hl4:(vs.map some).length=ls'.length:=by have:=E4.len;simpa using this
   have hjl':j<ls'.length:=by simp at hl4;omega
   have z1:=z.out (i:=1+j) (a:=a) (xs:=ys) (by rw[Nat.add_comm];simp only[List.getElem?_cons_succ];rw[U9 hjl'];exact hys);rw[Nat.add_comm 1 j,List.set_cons_succ,Wf _ _ hjl']at z1
   have z2:=z1.back (i:=(1+ls'.length)+i) (by
    rw[Nat.add_comm 1,Nat.add_right_comm,List.getElem?_cons_succ,Vb x_]
    simp[hil]) (by
    rw[Nat.add_comm 1,Nat.add_right_comm,List.getElem?_cons_succ,Vb (by simp at hl4 ⊢;omega)];simp at hl4 ⊢;rw[<- hl4,Vj]
    exact hσ)
   rw[Nat.add_comm 1,Nat.add_right_comm,List.set_cons_succ,Wx _ _ x_]at z2;simp only[VP,Vj,Wd]at z2;exact z2.drop1 (by simp at hl4 ⊢;exact hl4)
end
end
def u7(Z:Ev):List L->List L->Prop:=Paired λl l'=>match l with
 |.own a _=>(∃ys,l'=.own a ys/\L.own a ys∈Z)∨l'=.un
 |.bx _ _=>l'=.un
 |.dic _ _=>l'=.un
 |l=>l'=l
def aY(ls:List L)(k4:L->List L->Prop):Fl->Ev->Prop:=λf Z=>match f with
 |.rt r=>∃ls',u7 Z ls ls'/\k4 r ls'
 |.nx=>∃ls',u7 Z ls ls'/\k4 (.d .non) ls'
 |_=>False
theorem u7.owns{Z:Ev}:∀{ls ls':List L},u7 Z ls ls'->(owns ls').Sublist (owns ls)
 |_,_,.nil=>.refl _
 | l::ls,l'::ls',.cons h t=>by
  have ih:=u7.owns t;rw[aS,aS]
  cases l with
  | own a xs =>
   rcases h with⟨ys,rfl,_⟩|rfl
   . exact(WB _).append ih
   . exact ih.trans (VX _ _)
  |un=>have e:l'=.un:=h;subst e;exact(WB _).append ih
  |d x=>have e:l'=.d x:=h;subst e;exact(WB _).append ih
  |bx k ms=>have e:l'=.un:=h;subst e;exact ih.trans (VX _ _)
  |dic k ms=>have e:l'=.un:=h;subst e;exact ih.trans (VX _ _)
theorem u7.sub{Z:Ev}:∀{ls ls':List L},u7 Z ls ls'->∀a∈L2.owns ls',a∈L2.owns Z
 |_,_,.nil=>λa ha=>by simp[L2.owns]at ha
 | l::ls,l'::ls',.cons h t=>λa ha=>by
  have ih:=u7.sub t;rw[aS]at ha;rcases Vg.mp ha with z|z
  .
   cases l with
   | own b xs =>
    rcases h with⟨ys,rfl,hm⟩|rfl
    .
     have e:a=b:=by simpa[bf]using z
     subst e;exact zk hm
    . simp[bf]at z
   |un=>have e:l'=.un:=h;subst e;simp[bf]at z
   |d x=>have e:l'=.d x:=h;subst e;simp[bf]at z
   |bx k ms=>have e:l'=.un:=h;subst e;simp[bf]at z
   |dic k ms=>have e:l'=.un:=h;subst e;simp[bf]at z
  . exact ih a z
theorem rO{K:PySem.W.Frag}{Pr H H':Hp}{σ τ:St}{ls ls' Z:Ev}{v:Option V}{r:L}(E:aF K Pr H σ ls)(E':aF K (bE H ls) H' (v::τ) (r::Z))(B:u7 Z ls ls'):aF K Pr H' (v::σ) (r::ls'):=by
 have E1:=E.narrow E';have p:u5 H H':=vL E E'.sub;have sub:=B.sub;have nd1:(owns ls').Nodup:=E.nd.sublist B.owns;refine⟨E1.sub,?_,λa ha=>?_,?_⟩
 . have nd:=E'.nd;rw[aS]at nd ⊢;obtain⟨n1,n2,n3⟩:=Vq.mp nd;exact Vq.mpr ⟨n1,nd1,λa ha b hb=>n3 a ha b (sub b hb)⟩
 .
  rw[aS]at ha;refine E1.off a ?_;rw[aS];rcases Vg.mp ha with z|z
  . exact U8 _ z
  . exact U2 _ (sub a z)
 .
  have s1:=E'.sl
  cases s1 with
  | cons q t =>
   refine .cons q ?_;have sl:=E.sl;clear E E' E1 nd1 sub
   induction B generalizing σ with
   |nil=>cases sl;exact .nil
   | cons h u ih =>
    rename_i l l' _ _
    cases sl with
    | cons s0 s2 =>
     refine .cons ?_ (ih s2)
     cases l with
     | own a xs =>
      rcases h with⟨ys,rfl,hm⟩|rfl
      . obtain⟨e,_⟩:=s0;obtain⟨_,_,_,z⟩:=Paired.mem2 t hm;exact⟨e,z⟩
      . unfold a9;exact True.intro
     |un=>have e:l'=.un:=h;subst e;unfold a9;exact True.intro
     |bx k ms=>have e:l'=.un:=h;subst e;unfold a9;exact True.intro
     |dic k ms=>have e:l'=.un:=h;subst e;unfold a9;exact True.intro
     | d x =>
      have e:l'=.d x:=h;subst e;obtain⟨w,e,r⟩:=s0;exact⟨w,e,r.pres p⟩
section
variable{P:Program}{w:World}{K:PySem.W.Frag}{mg:Str->Option Value}{base:Heap}
theorem aF.uns{K:PySem.W.Frag}{Pr H:Hp}{σ:St}{Z:Ev}(E:aF K Pr H σ Z):∀n,aF K Pr H (σ++List.replicate n none) (Z++List.replicate n .un):=λn=>by
 have e:owns (Z++List.replicate n .un)=owns Z:=by
  rw[aK]
  have:owns (List.replicate n L.un)=[]:=by
   induction n with
   |zero=>rfl
   |succ n ih=>rw[List.replicate_succ,qI];exact ih
  rw[this,VC]
 refine⟨E.sub,by rw[e];exact E.nd,λa h=>E.off a (by rw[e]at h;exact h),Paired.app E.sl ?_⟩
 induction n with
 |zero=>exact .nil
 | succ n ih =>
  rw[List.replicate_succ,List.replicate_succ];refine .cons True.intro (ih ?_)
  have:owns (List.replicate n L.un)=[]:=by
   clear ih e
   induction n with
   |zero=>rfl
   |succ n ih=>rw[List.replicate_succ,qI];exact ih
  rw[aK,this,VC]
theorem bb{x qual:Str}{st:Stmt}{f:Addr}{fd:FuncData}{N ps:List Str}{k:Nat}{fs:FS}(F:QK K x qual st f fd)(S:aE N ps (au st))(t:W Fl)
  (hbody:∀(cdv:Value)(A:Around)(outer:List Env)(s:Shared)(H:Hp)(E:XK),mv k (A.deeper (envOfC qual (au st) s.heap.objs.size f cdv))->QR (HK CX0 P w K mg base N qual (au st) f cdv A outer s H E).nox (gA st) t)
  (h:∀ls k4,ls.length=ps.length->fs ls k4->t (ls++List.replicate (N.length-ps.length) .un) (aY ls k4)):FnOk P w K mg base CX0 (k+1) f fd ps (spF K ps.length fs):=by
 refine F.ok S (λvs H Q E q=>q.1) (λcdv A outer s H vs Q E hr q=>?_);obtain⟨hl,Pr,ls,k4,E0,hf,q⟩:=q;refine⟨_,(hbody cdv A outer s H E hr).pss,bE H ls,ls++List.replicate (N.length-ps.length) .un,aY ls k4,?_,h ls k4 (by rw[<- hl];have:=E0.len;simpa using this.symm) hf,λσ' H' Z' E' p=>?_,λ_ _ _ _ p=>p.elim,λ_ _ _ _ p=>p.elim,λv τ H' r Z' E' p=>?_⟩
 . unfold uz;rw[hl];exact E0.wide.uns _
 . obtain⟨ls',B,p⟩:=p;exact q .non H' (.d .non) ls' (rO E0 (E'.cons_d .non) B) p
 . obtain⟨ls',B,p⟩:=p;exact q v H' r ls' (rO E0 E' B) p
end
theorem aP{Z:Ev}:u7 Z [] []:=.nil
theorem aj{Z:Ev}{x:D}{a b:List L}(t:u7 Z a b):u7 Z (.d x::a) (.d x::b):=.cons rfl t
theorem jv{Z:Ev}{p:Addr}{xs ys:List D}{a b:List L}(h:L.own p ys∈Z)(t:u7 Z a b):u7 Z (.own p xs::a) (.own p ys::b):=.cons (.inl ⟨ys,rfl,h⟩) t
section
variable{X:Cx}{e a b c tg:Expr}{es:List Expr}{pos:Pos}{tA:W Bool}{t u:W Fl}
def sI(c:W Bool)(b:W Fl):W Fl:=λZ k4=>∃J:Nat->Ev->Prop,(∃n,J n Z)/\∀n Z,J n Z->c Z λt Z1=>if t=true then b Z1 λf Z2=>(match f with
 |.nx=>∃m,m<n/\J m Z2
 |.ct=>∃m,m<n/\J m Z2
 |.bk=>k4 .nx Z2
 |.rt r=>k4 (.rt r) Z2)else k4 .nx Z1
theorem oO{body:List Stmt}(hp:PassesOwn (model X.prog X.w) X.A X.env X.xe)(hc:PB X c tA)(hb:QR X body t):PM X (.While c body [] pos) (sI tA t):=by
 refine PM.of (Fw hp hc.pt hb.pss) λσ H Pr Z k4 b0 E h=>?_;obtain⟨J,⟨n0,j0⟩,turn⟩:=h;refine⟨λn σ H=>∃Z,aF X.K Pr H σ Z/\J n Z,⟨n0,Z,E,j0⟩,λn σ1 H1 ⟨Z1,E1,j1⟩=>⟨Pr,Z1,_,E1,turn n Z1 j1,λb H2 Z2 E2 q=>?_⟩⟩
 cases b with
 |false=>exact⟨Z2,E2,q⟩
 | true =>
  refine⟨λσ' H'=>∃Z' m,aF X.K Pr H' σ' Z'/\m<n/\J m Z',λσ' H' ⟨Z',m,E',hm,j⟩=>⟨m,hm,Z',E',j⟩,Pr,Z2,_,E2,q,λσ' H' Z' E' ⟨m,hm,j⟩=>⟨Z',m,E',hm,j⟩,λσ' H' Z' E' p=>⟨Z',E',p⟩,λσ' H' Z' E' ⟨m,hm,j⟩=>⟨Z',m,E',hm,j⟩,λv τ H' r Z' E' p=>⟨τ,r,Z',E',p⟩⟩
abbrev Tg:=D->Ev->(Ev->Prop)->Prop
def Q1(X:Cx)(tg:Expr)(g:Tg):Prop:=∃gg:TG,PG X tg gg/\∀v σ H Pr Z x k,σ.length=X.N.length->aF X.K Pr H σ Z->QM X.K H v x->g x Z k->gg v σ H λσ' H'=>H'=H/\σ'.length=X.N.length/\∃Z',aF X.K Pr H σ' Z'/\k Z'
def bj(i:Nat):Tg:=λx Z k=>k (Z.set i (.d x))
theorem eF{i:Nat}{x:Str}(hN:X.N.Nodup)(hi:X.N[i]?=some x)(hx:P6 X.env.scope x)(hf:X.fn x=true∨X.env.scope.names.lookup x=some .local:=by first|exact .inl rfl|exact .inr rfl|assumption):Q1 X (.Name x pos) (bj i) :=
 ⟨_,vF hN hi hx hf,λv σ H Pr Z x k hl E r h=>⟨rfl,by simpa using hl,_,(E.cons_d r).store (by rw[hl];exact(k5.mp hi).1),h⟩⟩
def jw:List Nat->List D->Ev->(Ev->Prop)->Prop
 |[],[],Z,k=>k Z
 |i::is,x::xs,Z,k=>jw is xs (Z.set i (.d x)) k
 |_,_,_,_=>False
def Q3(X:Cx)(es:List Expr)(is:List Nat):Prop:=∃gg:Qg,Qh X es gg/\es.length=is.length/\∀vs σ H Pr Z xs k,σ.length=X.N.length->aF X.K Pr H σ Z->bO X.K H vs xs->jw is xs Z k->gg vs σ H λσ' H'=>H'=H/\σ'.length=X.N.length/\∃Z',aF X.K Pr H σ' Z'/\k Z'
theorem dj:Q3 X [] []:=⟨_,CT,rfl,λvs σ H Pr Z xs k hl E r h=>by
 cases r with
 |nil=>exact⟨rfl,rfl,hl,Z,E,h⟩
 |cons _ _=>exact h.elim⟩
theorem aO{i:Nat}{is:List Nat}{x:Str}(hN:X.N.Nodup)(hi:X.N[i]?=some x)(hx:P6 X.env.scope x)(hr:Q3 X es is)(hf:X.fn x=true∨X.env.scope.names.lookup x=some .local:=by first|exact .inl rfl|exact .inr rfl|assumption)
  (hs:(assignEach (.Name x pos::es) X.env).map (·.2)=assign (.Name x pos) X.env::(assignEach es X.env).map (·.2):=by rfl):Q3 X (.Name x pos::es) (i::is):=by
 obtain⟨gg,hg,b0,q⟩:=hr;refine⟨_,AL (vF hN hi hx hf) hg hs,by simp[b0],λvs σ H Pr Z xs k hl E r h=>?_⟩
 cases r with
 |nil=>exact h.elim
 | cons r0 t =>
  refine⟨_,_,rfl,?_⟩;exact q _ _ H Pr _ _ k (by simpa using hl) ((E.cons_d r0).store (by rw[hl];exact(k5.mp hi).1)) t h
def eY(is:List Nat):Tg:=λx Z k=>match x with
 |.tup xs=>jw is xs Z k
 |_=>False
theorem nG:∀{is:List Nat}{xs:List D}{Z:Ev}{k:Ev->Prop},jw is xs Z k->xs.length=is.length
 |[],[],_,_,_=>rfl
 |_::is,_::xs,_,_,h=>by simp[nG (is:=is) (xs:=xs) h]
 |[],_::_,_,_,h=>h.elim
 |_::_,[],_,_,h=>h.elim
theorem gJ{is:List Nat}{k:Nat}(hc:X.calm=true)(h:Q3 X es is)(hn:(assignEach es X.env).length=is.length:=by rfl)(hst:(assignEach es X.env).findIdx? (·.1)=none:=by rfl):Q1 X (.Tuple es k pos) (eY is):=by
 obtain⟨gg,hg,b0,q⟩:=h;refine⟨_,HG hc hg hn hst,λv σ H Pr Z x k hl E r h=>?_⟩
 cases r with
 |tup hs rs=>exact⟨_,_,rfl,hs,by rw[rs.length];exact nG h,q _ σ H Pr Z _ k hl E rs h⟩
 |_=>exact h.elim
def cu(g:Tg)(b:W Fl):List D->W Fl
 |[]=>λZ k4=>k4 .nx Z
 | x::xs=>λZ k4=>g x Z λZ1=>b Z1 λf Z2=>match f with
  |.nx=>cu g b xs Z2 k4
  |.ct=>cu g b xs Z2 k4
  |.bk=>k4 .nx Z2
  |.rt r=>k4 (.rt r) Z2
def kI:D->(List D->Prop)->Prop
 |.lst xs,k=>k xs
 |.tup xs,k=>k xs
 |_,_=>False
def LR(H H':Hp):Prop:=H'=H∨∃p o,H p=none/\H'=PY H p o
theorem aF.grown{K:PySem.W.Frag}{Pr H H':Hp}{σ:St}{Z:Ev}(E:aF K Pr H σ Z)(g:LR H H'):aF K Pr H' σ Z:=by
 rcases g with rfl|⟨p,o,h,rfl⟩
 . exact E
 . exact E.new h
def zp(K:PySem.W.Frag)(H:Hp)(J:It)(xs:List D):Prop:=∀H',u5 H H' ->
 (∀i x,xs[i]?=some x->J.go i H'/\∀v H2,J.yld i H' v H2->LR H' H2/\QM K H2 v x)/\J.stop xs.length H'
inductive EI (X:Cx) (ab:List (Addr×Obj)) (σ:St) (tg:Expr) (Pr:Hp) (k4:List D->Ev->Prop) (itv:Value) (s2:Shared):Prop
 |mk (it:Addr) (fp:List Addr) (tn:Nat->Heap->Prop) (J:It) (H':Hp) (xs:List D) (Z':Ev) (hv:itv=.ref it) (i:P7 X ab σ H' s2) (t:HH X.prog X.w X.K tg J fp it tn) (h0:tn 0 s2.heap) (hf:∀b∈fp,CU X ab H' b) (e:aF X.K Pr H' σ Z') (g:zp X.K H' J xs) (p:k4 xs Z')
def Q4(X:Cx)(tg iter:Expr)(w:W (List D)):Prop :=
 ∀(ab:List (Addr×Obj))(s:Shared)(σ:St)(H Pr:Hp)(Z:Ev)(k4:List D->Ev->Prop),P7 X ab σ H s->aF X.K Pr H σ Z->w Z k4 ->
  wpAny (model X.prog X.w) X.A (eval iter X.env) (λv s1=>wpAny (model X.prog X.w) X.A (pyIter v) (EI X ab σ tg Pr k4) X.xe s1) X.xe s
def uv(t:W L):W (List D):=λZ k4=>t Z λr Z1=>QS r λx=>kI x λxs=>k4 xs Z1
theorem B3{K:PySem.W.Frag}{H:Hp}{a:Addr}{vs:List V}{xs:List D}(h:QL K H a vs)(r:bO K H vs xs):zp K H (Qj K a) xs:=λH' p=>by have h':=(h.pres p).l;refine⟨λi x e=>?_,⟨vs,h',by rw[r.length];exact US _⟩⟩;obtain⟨v,ev,rv⟩:=r.get e;refine⟨⟨vs,v,h',ev⟩,λw H2 ⟨e1,e2⟩=>?_⟩;have e3:=e2 vs h';rw[ev]at e3;cases e3;subst e1;exact⟨.inl rfl,rv.pres p⟩
theorem Do{K:PySem.W.Frag}{H:Hp}{a:Addr}{vs:List V}{xs:List D}(h:Qf K H a vs)(r:bO K H vs xs):zp K H (Qk K a) xs:=λH' p=>by have h':=h.pres p;refine⟨λi x e=>?_,⟨vs,h',by rw[r.length];exact US _⟩⟩;obtain⟨v,ev,rv⟩:=r.get e;refine⟨⟨vs,v,h',ev⟩,λw H2 ⟨e1,e2⟩=>?_⟩;have e3:=e2 vs h';rw[ev]at e3;cases e3;subst e1;exact⟨.inl rfl,rv.pres p⟩
theorem bU{t:W L}(h:PL X e t):Q4 X tg e (uv t):=by
 intro ab s σ H Pr Z k4 I E ht;refine Qb (h ab s σ H Pr Z _ I E ht) λu s1 q=>?_;obtain⟨v,H1,x,Z1,I1,r1,E1,q2⟩:=EL.frz (k4:=λx Z1=>kI x λxs=>k4 xs Z1) q;obtain⟨_,e1,p⟩:=E1.head_d;cases e1
 cases p with
 | lst hz rs =>
  cases r1;obtain⟨its,rv,pl,hz'⟩:=I1.list hz.l;refine wpAny_pyIter_list pl.isList ?_;refine⟨s1.heap.objs.size,[s1.heap.objs.size],_,_,H1,_,Z1,rfl,I1.kept (t':=s1.toks) λb o e=>tu _ e,CV _ _,⟨_,U3 _ rfl,rfl,rfl⟩,λb hb=>?_,E1.tail,B3 hz rs,q2⟩;have e:b=s1.heap.objs.size:=by simpa using hb
  subst e;exact I1.fpOk (US _) (I1.hok.fresh (US _))
 | tup hz rs =>
  cases r1;obtain⟨its,rv,pl,hz'⟩:=I1.tuple hz;refine wpAny_pyIter_tuple (show s1.heap.IsTuple _ its.toArray from pl) ?_;refine⟨s1.heap.objs.size,[s1.heap.objs.size],_,_,H1,_,Z1,rfl,I1.kept (t':=s1.toks) λb o e=>tu _ e,BR _ _,⟨_,U3 _ rfl,rfl,rfl⟩,λb hb=>?_,E1.tail,Do hz rs,q2⟩;have e:b=s1.heap.objs.size:=by simpa using hb
  subst e;exact I1.fpOk (US _) (I1.hok.fresh (US _))
 |_=>exact q2.elim
noncomputable def zr(lo:Int)(n:Nat):List D:=(List.range n).map λ(i:Nat)=>.int (lo+(i:Int))
theorem Dp{K:PySem.W.Frag}{H:Hp}(lo:Int)(n:Nat):zp K H (Ql lo n) (zr lo n):=λH' p=>by
 refine⟨λi x e=>?_,?_⟩
 .
  have hi:i<n:=by have:=(k5.mp e).1;simpa[zr]using this
  refine⟨hi,λv H2 ⟨e1,e2⟩=>?_⟩;subst e1 e2;have:x=.int (lo+(i:Int)):=by unfold zr at e;rw[UU,VI hi]at e;simpa using e.symm
  subst this;exact⟨.inl rfl,.int _⟩
 . show n<=(zr lo n).length;simp[zr]
def nH:L->(Int->Prop)->Prop
 |.d (.int i),k=>k i
 |_,_=>False
theorem eG{r:L}{k:Int->Prop}(h:nH r k):∃i,r=.d (.int i)/\k i:=by
 cases r with
 | d x=>cases x with
  |int i=>exact⟨i,rfl,h⟩
  |_=>exact h.elim
 |_=>exact h.elim
def LS(j:Int):Prop:=-(2^62)<=j/\j<2^62
def uC(t:W L):W (List D):=λZ k4=>t Z λr Z1=>nH r λj=>LS j/\k4 (zr 0 j.toNat) Z1
theorem iq{t:W L}{p pos:Pos} (hg:Gl X "range") (hm:X.mg "range"=none) (ha:PL X a t) (hs:starEach [a] X.env=[(false,eval a X.env)]:=by rfl):Q4 X tg (.Call (.Name "range" p) [a] [] pos) (uC t):=by
 intro ab s σ H Pr Z k4 I E h;refine Qb (CW (tg:=tg) hg hm (gW ha.pe sq hs) hs ab s σ H (λJ H1=>∃Z1 n,J=Ql 0 n/\aF X.K Pr H1 σ Z1/\k4 (zr 0 n) Z1) I ?_) λv s1 q=>Qb q λitv s2 ⟨it,fp,tn,J,H',e,I',T,t0,hf,Z1,n,eJ,E1,q⟩=>?_
 . refine⟨Pr,Z,_,E,h,λv H' r Z' E' p=>?_⟩;obtain⟨j,rfl,hj,p⟩:=eG p;obtain⟨_,e1,p1⟩:=E'.head_d;cases e1;obtain rfl:=QM.inv_int p1;exact⟨j,rfl,hj.1,hj.2,Z',_,rfl,E'.tail,p⟩
 . subst eJ;exact⟨it,fp,tn,_,H',_,Z1,e,I',T,t0,hf,E1,Dp 0 n,q⟩
def qM(s:W (List D))(g:Tg)(b:W Fl):W Fl:=λZ k4=>s Z λxs Z1=>cu g b xs Z1 k4
theorem cD{iter:Expr}{body:List Stmt}{w:W (List D)}{g:Tg}(hp:PassesOwn (model X.prog X.w) X.A X.env X.xe)(hc:X.calm=true)(hi:Q4 X tg iter w)(hg:Q1 X tg g)(hb:QR X body t)
  (hs:∀x,foldedSetIterable iter X.env x=pure x:=by intro _;rfl):PM X (.For tg iter body [] pos) (qM w g t):=by
 intro ab s σ H Pr Z k4 I E h;obtain⟨gg,hg,hgg⟩:=hg;refine wpAny_For (Qb (hi ab s σ H Pr Z _ I E h) λv s1 h1=>Qb h1 λitv s2 h2=>?_) hs;obtain⟨it,fp,tn,J,H2,xs,Z2,e,I2,T,st2,f2,E2,G,w0⟩:=h2;subst e;have stat:∀{H':Hp},(∀b∈fp,H' b=none)->∀b∈fp,CU X ab H' b:=λhn b hb=>⟨hn b hb,(f2 b hb).2⟩;refine codeAny_forLoop_any (λn s'=>∃i σ' H' Z',n+i=xs.length/\P7 X ab σ' H' s'/\tn i s'.heap/\(∀b∈fp,H' b=none)/\aF X.K (bE H2 Z2) H' σ' Z'/\cu g t (xs.drop i) Z' k4) ?_ xs.length ⟨0,σ,H2,Z2,xL,I2,st2,λb hb=>(f2 b hb).1,E2.wide,by simpa using w0⟩;rintro n s3 ⟨i,σ3,H3,Z3,hn,I3,st3,fr3,E3,w3⟩;obtain⟨go,stop⟩:=G H3 (vL E2 E3.sub);by_cases hlt:i<xs.length
 .
  obtain⟨hgo,hy⟩:=go i xs[i] (fI hlt);rw[Vi hlt]at w3;refine Wy hp (Qb (T.item X rfl rfl rfl hc i ab s3 σ3 H3 X.xe I3 (stat fr3) st3 hgo) λr s4 ⟨u,hr,h4⟩=>?_);subst hr;refine Wy hp (Qb h4 λ_ s5 ⟨x,H5,I5,r5,y5,st5,fr5⟩=>?_);obtain⟨gr,rx⟩:=hy x H5 y5;have I5':=I5.pinned (stat fr5) (T.obj _ _ st5);have E5:=E3.grown gr;refine Wy hp (Qb (hg _ s5 σ3 H5 x u _ I5' r5 (hgg x σ3 H5 _ Z3 xs[i] _ I5.len E5 rx w3)) λ_ s6 ⟨σ6,H6,I6,e6,hl6,Z6,E6,q6⟩=>?_);subst e6;refine Wy hp (Qb (hb _ s6 σ6 _ _ Z6 _ I6 E6 q6) λf s7 q7=>?_)
  have again:∀{σ7:St}{H7:Hp}{Z7:Ev},P7 X (ab++xl fp s5.heap) σ7 H7 s7->aF X.K (bE H2 Z2) H7 σ7 Z7->cu g t (xs.drop (i+1)) Z7 k4 ->
    ∃m,m<n/\∃i σ' H' Z',m+i=xs.length/\P7 X ab σ' H' s7/\tn i s7.heap/\(∀b∈fp,H' b=none)/\aF X.K (bE H2 Z2) H' σ' Z'/\cu g t (xs.drop i) Z' k4:=λ{σ7 H7 Z7} I7 E7 n7=>by
   refine⟨n-1,xL,i+1,σ7,H7,Z7,xL,I7.unpinned,T.keep _ _ _ st5 λb hb o e=>(I7.pin (b,o) (U2 _ (U2 _ (l4 hb e)))).1,λb hb=>?_,E7,n7⟩;obtain⟨o,e,d⟩:=T.obj _ _ st5 b hb;exact(I7.pin (b,o) (U2 _ (U2 _ (l4 hb e)))).2.1
  cases f with
  |next=>obtain⟨σ7,H7,Z7,I7,E7,n7⟩:=q7;exact again I7 E7 n7
  |cont=>obtain⟨σ7,H7,Z7,I7,E7,n7⟩:=q7;exact again I7 E7 n7
  |brk=>obtain⟨σ7,H7,Z7,I7,E7,q7⟩:=q7;exact⟨σ7,H7,Z7,I7.unpinned,E2.narrow E7,q7⟩
  |ret v=>obtain⟨x7,σ7,H7,r,Z7,τ,I7,r7,E7,q7⟩:=q7;exact⟨x7,σ7,H7,r,Z7,τ,I7.unpinned,r7,E2.narrow E7,q7⟩
 .
  have e:i=xs.length:=by omega
  subst e;refine Wy hp (Qb (T.done X rfl rfl rfl hc xs.length ab s3 σ3 H3 X.xe I3 (stat fr3) st3 stop) λr s4 ⟨hr,I4⟩=>?_);subst hr;rw[Wp]at w3;exact wpAny_execs_nil ⟨σ3,H3,Z3,I4,E2.narrow E3,w3⟩
end
section
variable{X:Cx}{e a b c:Expr}{pos:Pos}{ta tb:W L}
def dF(i:Int):Prop:=i.natAbs<2^1000000
def dO:QT:=λx y k=>match x,y with
 |.int i,.int j=>k (.d (.int (i+j)))
 |.str i,.str j=>i.length+j.length<=sizeLine/\k (.d (.str (i++j)))
 |.lst xs,.lst ys=>xs.length+ys.length<=sizeLine/\∀a,k (.own a (xs++ys))
 |_,_=>False
def mw:QT:=λx y k=>match x,y with
 |.int i,.int j=>k (.d (.int (i-j)))
 |_,_=>False
def uD:QT:=λx y k=>match x,y with
 |.int i,.int j=>j≠0/\j.natAbs<2^9000/\k (.d (.int (i.fdiv j)))
 |_,_=>False
def gX:QT:=λx y k=>match x,y with
 |.int i,.int j=>j≠0/\k (.d (.int (i.fmod j)))
 |_,_=>False
def B4:QT:=λx y k=>match x,y with
 |.int i,.int j=>0<=j/\j<=1000000/\i.natAbs<2^64/\k (.d (.int (i^j.toNat)))
 |_,_=>False
def uw:QT:=λx y k=>match x,y with
 |.int i,.int j=>k (.d (.bl (decide (i<j))))
 |_,_=>False
def Jj:QT:=λx y k=>match x,y with
 |.int i,.int j=>k (.d (.bl (decide (i<=j))))
 |_,_=>False
def Jk:QT:=λx y k=>match x,y with
 |.int i,.int j=>k (.d (.bl (decide (j<i))))
 |_,_=>False
def LU:QT:=λx y k=>match x,y with
 |.int i,.int j=>k (.d (.bl (decide (j<=i))))
 |_,_=>False
theorem Dq{i j:Int}(h1:dF i)(h2:dF j):IntMulOk i j:=IntMulOk.of_le (PySem.intBits_le_iff.mpr h1) (PySem.intBits_le_iff.mpr h2) xp
theorem Jl:Qm X (binaryOp .Mult) (rI (λi j=>dF i/\dF j) λi j=>.int (i*j)):=Qq λ_ _ _ _ _ _ _ hc q=>mul_int q (Dq hc.1 hc.2)
theorem Jm:Qm X (binaryOp .FloorDiv) (rI (λi j=>j≠0/\j.natAbs<2^9000) λi j=>.int (i.fdiv j)):=Qq λi j _ _ _ _ _ hc q=>floordiv_int hc.1 q (.inl (PyProof.noPylong_of_log2 ((Nat.log2_lt (by have:=hc.1;omega)).mpr hc.2)))
theorem Jn:Qm X (binaryOp .Add) (λx y H Q=>∃l b xs zs,x=.ref l/\y=.ref b/\Qe X.K H l xs/\Qe X.K H b zs/\xs.length+zs.length<=sizeLine/\∀p,H p=none->Q (.ref p) (PY H p (.lst (xs++zs)))):=by
 intro ab s σ H x y v u Q I rx ry h;obtain⟨l,b,xs,zs,rfl,rfl,hH,hB,hz,q⟩:=h;cases rx;cases ry;obtain⟨its,r,⟨o,n,e,c,d,f⟩,z⟩:=I.list hH;obtain⟨its2,r2,⟨o2,n2,e2,c2,d2,f2⟩,z2⟩:=I.list hB;obtain⟨cl,dd,dt,sl⟩:=o;obtain⟨cl2,dd2,dt2,sl2⟩:=o2;simp only at c f c2 f2;subst c f c2 f2;have hl:=r.length;have hl2:=r2.length;refine concat_meets ⟨_,e,rfl⟩ ⟨_,e2,rfl⟩ noFill_list_add seq_list_add PySem.F.slot_list_add PySem.F.entry_list_add (PySem.F.args_list_add_2 _ _) (list_addW l b its.toArray its2.toArray n n2 dd dd2 sl sl2 (by rw[UZ,UZ];omega)) ⟨e,e2,?_⟩;have ea:its.toArray++its2.toArray=(its++its2).toArray:=by simp
 rw[ea];exact⟨.ref _,_,I.lnew (t':=s.toks) (r.append r2) (by rw[Vk];omega),rfl,q _ I.fresh⟩
theorem FV{x y:D}{k:L->Prop}(h:dO x y k):(∃i j,x=.int i/\y=.int j/\k (.d (.int (i+j))))∨(∃i j,x=.str i/\y=.str j/\i.length+j.length<=sizeLine/\k (.d (.str (i++j))))∨∃xs ys,x=.lst xs/\y=.lst ys/\xs.length+ys.length<=sizeLine/\∀a,k (.own a (xs++ys)):=by
 unfold dO at h;split at h
 . exact .inl ⟨_,_,rfl,rfl,h⟩
 . exact .inr (.inl ⟨_,_,rfl,rfl,h⟩)
 . exact .inr (.inr ⟨_,_,rfl,rfl,h⟩)
 . exact h.elim
theorem Jo:QU X (binaryOp .Add) (λx y k=>∃i j,x=.int i/\y=.int j/\k (.d (.int (i+j)))):=QU.of Ll λσ H Pr Z x y dx dy k4 E px py ⟨i,j,e1,e2,h⟩=>by subst e1 e2;obtain rfl:=QM.inv_int px;obtain rfl:=QM.inv_int py;exact⟨i,j,rfl,rfl,_,E.cons_d (.int _),h⟩
theorem Jp:QU X (binaryOp .Add) (λx y k=>∃i j,x=.str i/\y=.str j/\i.length+j.length<=sizeLine/\k (.d (.str (i++j)))):=QU.of BU λσ H Pr Z x y dx dy k4 E px py ⟨i,j,e1,e2,z,h⟩=>by subst e1 e2;obtain rfl:=QM.inv_str px;obtain rfl:=QM.inv_str py;exact⟨i,j,rfl,rfl,z,_,E.cons_d (.str _),h⟩
theorem Jq:QU X (binaryOp .Add) (λx y k=>∃xs ys,x=.lst xs/\y=.lst ys/\xs.length+ys.length<=sizeLine/\∀a,k (.own a (xs++ys))):=QU.of Jn λσ H Pr Z x y dx dy k4 E px py ⟨xs,ys,e1,e2,z,h⟩=>by
 subst e1 e2;obtain⟨_,_,rfl,h1,r1⟩:=QM.inv_lst px
 cases py with
 |lst h2 r2=>exact⟨_,_,_,_,rfl,rfl,h1.l,h2.l,by rw[r1.length,r2.length];exact z,λp hp=>⟨_,E.cons_own hp (r1.append r2),h p⟩⟩
theorem bV:QU X (binaryOp .Add) dO:=by
 intro ab s σ H Pr Z x y v u dx dy k4 I rx ry E px py ho;rcases FV ho with h|h|h
 . exact Jo ab s σ H Pr Z x y v u dx dy k4 I rx ry E px py h
 . exact Jp ab s σ H Pr Z x y v u dx dy k4 I rx ry E px py h
 . exact Jq ab s σ H Pr Z x y v u dx dy k4 I rx ry E px py h
theorem AU{f:Value->Value->Sem Value}{C:Int->Int->Prop}{g:Int->Int->V}{gd:Int->Int->D}(h:Qm X f (rI C g))(hg:∀K H i j,QM K H (g i j) (gd i j)) :
  QU X f (λx y k=>∃i j,x=.int i/\y=.int j/\C i j/\k (.d (gd i j))) :=
 QU.of h λσ H Pr Z x y dx dy k4 E px py ⟨i,j,e1,e2,z,h⟩=>by subst e1 e2;obtain rfl:=QM.inv_int px;obtain rfl:=QM.inv_int py;exact⟨i,j,rfl,rfl,z,_,E.cons_d (hg _ _ _ _),h⟩
theorem sJ{f:Value->Value->Sem Value}{g:Int->Int->V}{gd:Int->Int->D}(h:Qm X f (Qp g))(hg:∀K H i j,QM K H (g i j) (gd i j)) :
  QU X f (λx y k=>∃i j,x=.int i/\y=.int j/\k (.d (gd i j))) :=
 QU.of h λσ H Pr Z x y dx dy k4 E px py ⟨i,j,e1,e2,h⟩=>by subst e1 e2;obtain rfl:=QM.inv_int px;obtain rfl:=QM.inv_int py;exact⟨i,j,rfl,rfl,_,E.cons_d (hg _ _ _ _),h⟩
theorem i5:QU X (binaryOp .Sub) mw:=(sJ Lm (gd:=λi j=>.int (i-j)) λ_ _ _ _=>.int _).imp λx y k h=>by
 unfold mw at h;split at h
 . exact⟨_,_,rfl,rfl,h⟩
 . exact h.elim
theorem LV:QU X (binaryOp .Mult) (λx y k=>∃i j,x=.int i/\y=.int j/\(dF i/\dF j)/\k (.d (.int (i*j)))):=AU Jl (gd:=λi j=>.int (i*j)) λ_ _ _ _=>.int _
def bK:QT:=λx y k=>match x,y with
 |.int i,.int j=>dF i/\dF j/\k (.d (.int (i*j)))
 |_,_=>False
theorem bo:QU X (binaryOp .Mult) bK:=LV.imp λx y k h=>by
 unfold bK at h;split at h
 . exact⟨_,_,rfl,rfl,⟨h.1,h.2.1⟩,h.2.2⟩
 . exact h.elim
theorem sL:QU X (binaryOp .FloorDiv) uD:=(AU Jm (gd:=λi j=>.int (i.fdiv j)) λ_ _ _ _=>.int _).imp λx y k h=>by
 unfold uD at h;split at h
 . exact⟨_,_,rfl,rfl,⟨h.1,h.2.1⟩,h.2.2⟩
 . exact h.elim
theorem dX:QU X (binaryOp .Mod) gX:=(AU IR (gd:=λi j=>.int (i.fmod j)) λ_ _ _ _=>.int _).imp λx y k h=>by
 unfold gX at h;split at h
 . exact⟨_,_,rfl,rfl,h.1,h.2⟩
 . exact h.elim
theorem Dr:QU X (binaryOp .Pow) B4:=(AU Ln (gd:=λi j=>.int (i^j.toNat)) λ_ _ _ _=>.int _).imp λx y k h=>by
 unfold B4 at h;split at h
 . exact⟨_,_,rfl,rfl,⟨h.1,h.2.1,h.2.2.1⟩,h.2.2.2⟩
 . exact h.elim
theorem mx:QU X (compareOp .Lt) uw:=(sJ Lp (gd:=λi j=>.bl (decide (i<j))) λ_ _ _ _=>.bl _).imp λx y k h=>by
 unfold uw at h;split at h
 . exact⟨_,_,rfl,rfl,h⟩
 . exact h.elim
theorem NU:QU X (compareOp .LtE) Jj:=(sJ Lq (gd:=λi j=>.bl (decide (i<=j))) λ_ _ _ _=>.bl _).imp λx y k h=>by
 unfold Jj at h;split at h
 . exact⟨_,_,rfl,rfl,h⟩
 . exact h.elim
theorem FW:QU X (compareOp .Gt) Jk:=(sJ NM (gd:=λi j=>.bl (decide (j<i))) λ_ _ _ _=>.bl _).imp λx y k h=>by
 unfold Jk at h;split at h
 . exact⟨_,_,rfl,rfl,h⟩
 . exact h.elim
theorem LW:QU X (compareOp .GtE) LU:=(sJ NN (gd:=λi j=>.bl (decide (j<=i))) λ_ _ _ _=>.bl _).imp λx y k h=>by
 unfold LU at h;split at h
 . exact⟨_,_,rfl,rfl,h⟩
 . exact h.elim
mutual
noncomputable def Q5:D->PyData
 |.non=>.none
 |.bl b=>.bool b
 |.int i=>.int i
 |.str x=>.str x
 |.tup xs=>.tuple (fX xs)
 |.lst xs=>.list (fX xs)
 |.dct _=>.dict []
 |.exc _ _ _=>.dict []
 |.fn _ _=>.dict []
 |.dk _ _=>.dict []
 |.gf _=>.dict []
noncomputable def fX:List D->List PyData
 |[]=>[]
 |x::xs=>Q5 x::fX xs
end
noncomputable def Q6(x y:D):Bool:=PyData.eqv (Q5 x) (Q5 y)
def fY(x:D):Prop:=SeqAt.shaped (Q5 x)=true
def pN:QT:=λx y k=>fY x/\fY y/\k (.d (.bl (Q6 x y)))
def uE:QT:=λx y k=>fY x/\fY y/\k (.d (.bl (!Q6 x y)))
mutual
theorem jx{ab:List (Addr×Obj)}{σ:St}{H:Hp}{s:Shared}(I:P7 X ab σ H s):∀(d:D)(x:V)(u:Value),cq x u->QM X.K H x d->(Q5 d).canLay0=true->∃as,Reads s.heap u (Q5 d) as
 |.non,_,_,rv,r,_=>by obtain rfl:=QM.inv_non r;cases rv;exact⟨_,.none⟩
 |.bl b,_,_,rv,r,_=>by obtain rfl:=QM.inv_bl r;cases rv;exact⟨_,.bool b⟩
 |.int i,_,_,rv,r,_=>by obtain rfl:=QM.inv_int r;obtain⟨t,rfl⟩:=rv;exact⟨_,.int i t⟩
 |.str z,_,_,rv,r,_=>by obtain rfl:=QM.inv_str r;obtain⟨t,rfl⟩:=rv;exact⟨_,.str z t⟩
 | .tup xs,_,_,rv,r,hc=>by
  obtain⟨_,_,rfl,h,rs⟩:=QM.inv_tup r
  cases rv
  obtain⟨its,vs,⟨o,e,c,n,d⟩,_⟩:=I.tuple h
  obtain⟨as,ra⟩:=nI I xs _ _ vs rs hc
  exact⟨_,.tuple (xs:=fX xs) e c d (by simpa using ra)⟩
 | .lst xs,_,_,rv,r,hc=>by
  obtain⟨_,_,rfl,h,rs⟩:=QM.inv_lst r
  cases rv
  obtain⟨its,vs,⟨o,n,e,c,_,d⟩,_⟩:=I.list h.l
  obtain⟨as,ra⟩:=nI I xs _ _ vs rs hc
  exact⟨_,.list (xs:=fX xs) e c d (by simpa using ra)⟩
 |.dct _,_,_,_,_,hc=>nomatch hc
 |.exc _ _ _,_,_,_,_,hc=>nomatch hc
 |.fn _ _,_,_,_,_,hc=>nomatch hc
 |.dk _ _,_,_,_,_,hc=>nomatch hc
 |.gf _,_,_,_,_,hc=>nomatch hc
theorem nI{ab:List (Addr×Obj)}{σ:St}{H:Hp}{s:Shared}(I:P7 X ab σ H s):∀(ds:List D)(vs:List V)(us:List Value),cK vs us->bO X.K H vs ds->PyData.canLayAll0 (fX ds)=true->∃as,ReadsAll s.heap us (fX ds) as
 |[],_,_,rv,r,_=>by cases r;cases rv;exact⟨_,.nil⟩
 | d::ds,_,_,rv,r,hc=>by
  have hc':(Q5 d).canLay0=true/\PyData.canLayAll0 (fX ds)=true:=by simpa[fX,PyData.canLayAll0]using hc
  cases r with
  | cons r0 rs =>
   cases rv with
   | cons v0 vs =>
    obtain⟨as,ra⟩:=jx I d _ _ v0 r0 hc'.1
    obtain⟨bs,rb⟩:=nI I ds _ _ vs rs hc'.2
    exact⟨_,.cons ra rb⟩
end
theorem fZ(hu:X.A.units+64<cLine):QU X (compareOp .Eq) pN:=by intro ab s σ H Pr Z x y v u dx dy k4 I rx ry E px py ⟨h1,h2,ho⟩;obtain⟨as,ra⟩:=jx I dx x v rx px (SeqAt.canLay_of_shaped h1);obtain⟨bs,rb⟩:=jx I dy y u ry py (SeqAt.canLay_of_shaped h2);exact eq_dataH ra rb h1 h2 hu ⟨.bl _,H,_,I,rfl,E.cons_d (.bl _),ho⟩
theorem kJ(hu:X.A.units+64<cLine):QU X (compareOp .NotEq) uE:=by intro ab s σ H Pr Z x y v u dx dy k4 I rx ry E px py ⟨h1,h2,ho⟩;obtain⟨as,ra⟩:=jx I dx x v rx px (SeqAt.canLay_of_shaped h1);obtain⟨bs,rb⟩:=jx I dy y u ry py (SeqAt.canLay_of_shaped h2);exact ne_dataH ra rb h1 h2 hu ⟨.bl _,H,_,I,rfl,E.cons_d (.bl _),ho⟩
theorem LX:QU X (compareOp .Is) (λx y k=>y=.non/\k (.d (.bl (match x with | .non=>true|_=>false)))):=QU.of Lr λσ H Pr Z x y dx dy k4 E px py ⟨e,h⟩=>by subst e;obtain rfl:=QM.inv_non py;refine⟨rfl,_,E.cons_d (.bl _),?_⟩;cases px<;>exact h
theorem Jr:QU X (compareOp .IsNot) (λx y k=>y=.non/\k (.d (.bl (match x with | .non=>false|_=>true)))):=QU.of IS λσ H Pr Z x y dx dy k4 E px py ⟨e,h⟩=>by subst e;obtain rfl:=QM.inv_non py;refine⟨rfl,_,E.cons_d (.bl _),?_⟩;cases px<;>exact h
def aM:QT:=λx y k=>match x,y with
 |.lst xs,.int i=>∃v,Qz xs i=some v/\k (.d v)
 |.tup xs,.int i=>∃v,Qz xs i=some v/\k (.d v)
 |.str z,.int i=>z.length<=sizeLine/\∃c,Qz z.cps.toList i=some c/\k (.d (.str ⟨#[c]⟩))
 |_,_=>False
theorem zt{K:PySem.W.Frag}{H:Hp}{vs:List V}{xs:List D}(r:bO K H vs xs){i:Int}{x:D}(h:Qz xs i=some x):∃v,Qz vs i=some v/\QM K H v x:=by
 unfold Qz at h ⊢;rw[r.length]
 cases q:Qy xs.length i with
 |none=>rw[q]at h;cases h
 | some j =>
  rw[q]at h;exact r.get h
theorem Js{x y:D}{k:L->Prop}(h:aM x y k):∃i,y=.int i/\((∃xs,x=.lst xs/\∃v,Qz xs i=some v/\k (.d v))∨(∃xs,x=.tup xs/\∃v,Qz xs i=some v/\k (.d v))∨∃z,x=.str z/\z.length<=sizeLine/\∃c,Qz z.cps.toList i=some c/\k (.d (.str ⟨#[c]⟩))):=by
 unfold aM at h;split at h
 . exact⟨_,rfl,.inl ⟨_,rfl,h⟩⟩
 . exact⟨_,rfl,.inr (.inl ⟨_,rfl,h⟩)⟩
 . exact⟨_,rfl,.inr (.inr ⟨_,rfl,h⟩)⟩
 . exact h.elim
theorem ax(ha:PL X a ta)(hb:PL X b tb)(hs:vG b):PL X (.Subscript a b pos) (ay aM ta tb):=by
 intro ab s σ H Pr Z k4 I E h;refine Subscript_ (two (R:=λdx dy Z2=>aM dx dy λr=>k4 r Z2) ha hb I E h λv u s2 x y H2 dx dy Z2 I2 r1 r2 E2 p1 p2 q=>?_);have Qd:∀(Q:VK),(∀z H',Q z H'->∃r,aF X.K Pr H' (some z::σ) (r::Z2)/\k4 r Z2)->∀w s',EP X ab σ Q w s'->EL X ab σ Pr k4 w s':=λQ hQ w s' h_=>h_.on λz H' I' rz q=>by obtain⟨r,E',p⟩:=hQ z H' q;exact⟨z,H',r,Z2,I',rz,E',p⟩
 have Eσ:=E2.tail.tail;obtain⟨i,rfl,⟨xs,rfl,z,hz',q⟩|⟨xs,rfl,z,hz',q⟩|⟨z,rfl,hz,c,hc,q⟩⟩:=Js q
 . obtain rfl:=QM.inv_int p2;obtain⟨_,_,rfl,hz,rs⟩:=QM.inv_lst p1;obtain⟨w,hw,rw⟩:=zt rs hz';exact Qb (zg a b ab s2 σ H2 _ _ v u (λz H'=>z=w/\H'=H2) I2 r1 r2 ⟨_,_,i,w,rfl,rfl,hz.l,hw,rfl,rfl⟩ (hs _ _)) (Qd _ λz H' ⟨e1,e2⟩=>by subst e1 e2;exact⟨_,Eσ.cons_d rw,q⟩)
 . obtain rfl:=QM.inv_int p2;obtain⟨_,_,rfl,hz,rs⟩:=QM.inv_tup p1;obtain⟨w,hw,rw⟩:=zt rs hz';exact Qb (HM a b ab s2 σ H2 _ _ v u (λz H'=>z=w/\H'=H2) I2 r1 r2 ⟨_,_,i,w,rfl,rfl,hz,hw,rfl,rfl⟩ (hs _ _)) (Qd _ λz H' ⟨e1,e2⟩=>by subst e1 e2;exact⟨_,Eσ.cons_d rw,q⟩)
 . obtain rfl:=QM.inv_int p2;obtain rfl:=QM.inv_str p1;exact Qb (Ly a b ab s2 σ H2 _ _ v u (λz H'=>z=.str ⟨#[c]⟩/\H'=H2) I2 r1 r2 ⟨z,i,c,rfl,rfl,hz,hc,rfl,rfl⟩ (hs _ _)) (Qd _ λz H' ⟨e1,e2⟩=>by subst e1 e2;exact⟨_,Eσ.cons_d (.str _),q⟩)
end
section
variable{X:Cx}{e a b c:Expr}{es:List Expr}{pos p:Pos}{ta:W L}{x:Str}{bs:List (Option Nat)}{t:W (List L)}{id T:String}
abbrev Q7:=List D->(L->Prop)->Prop
def gM(X:Cx)(f:Value)(op:Q7):Prop :=
 ∀(ab:List (Addr×Obj))(s:Shared)(σ:St)(H Pr:Hp)(Z:Ev)(vs:List V)(us:List Value)(ds:List D)(k4:L->Prop),P7 X ab σ H s->cK vs us->aF X.K Pr H σ Z->bO X.K H vs ds->op ds k4 ->
  wpAny (model X.prog X.w) X.A (call f us) (λw s'=>∃z H' r,P7 X ab σ H' s'/\cq z w/\aF X.K Pr H' (some z::σ) (r::Z)/\k4 r) X.xe s
theorem gM.of{f:Value}{r:List V->Hp->VK->Prop}{op:Q7}(h:kG X f r)(q:∀σ H Pr Z vs ds k4,aF X.K Pr H σ Z->bO X.K H vs ds->op ds k4->r vs H λz H'=>∃r,aF X.K Pr H' (some z::σ) (r::Z)/\k4 r):gM X f op :=
 λab s σ H Pr Z vs us ds k4 I rv E ps ho=>Qb (h ab s σ H vs us _ I rv (q σ H Pr Z vs ds k4 E ps ho)) λw s' ⟨z,H',I',rz,r,E',p⟩=>⟨z,H',r,I',rz,E',p⟩
def aZ(op:Q7)(t:W (List L)):W L:=λZ k4=>t Z λls Z1=>K7 ls λds=>op ds λr=>k4 r Z1
theorem aR(hc:gM X (.builtin id) op)(hg:Gl X x)(hm:X.mg x=none)(hv:bootBuiltins x=some (.builtin id))(ha:QO X (e::es) bs t) (hn:x≠"__name__":=by decide) (hdb:(x == ("__debug__" : Str))=false:=by decide)
  (he:starEach (e::es) X.env=(false,eval e X.env)::starEach es X.env:=by rfl) (hpl:(backTo pos (starEach es X.env)).any (·.1)=false:=by rfl):PL X (.Call (.Name x p) (e::es) [] pos) (aZ op t):=by
 intro ab s σ H Pr Z k4 I E h;refine Ws (oI I hg hm hv ?_ hn hdb);refine PyProof.Rows.callWith_builtin1 (Qb (ha pos ab s σ H Pr Z _ I E h) λus s1 h_=>h_.on λvs H1 ls Z1 I1 r1 hl hb E1 _ q1=>?_) he hpl;obtain⟨ds,rfl,q2⟩:=sG q1;have b0:vs.length=ds.length:=by simpa using hl
 exact Qb (hc ab s1 σ H1 Pr Z1 vs us ds _ I1 r1 (E1.drop (by simp[b0])) (sH b0 E1) q2) λw s2 ⟨z,H2,r,I2,rz,E2,q⟩=>⟨z,H2,r,Z1,I2,rz,E2,q⟩
theorem eH(hc:gM X (.type T) op)(hg:Gl X x)(hm:X.mg x=none)(hv:bootBuiltins x=some (.type T))(ha:QO X (e::es) bs t) (hn:x≠"__name__":=by decide) (hdb:(x == ("__debug__" : Str))=false:=by decide)
  (he:starEach (e::es) X.env=(false,eval e X.env)::starEach es X.env:=by rfl) (hpl:(backTo pos (starEach es X.env)).any (·.1)=false:=by rfl):PL X (.Call (.Name x p) (e::es) [] pos) (aZ op t):=by
 intro ab s σ H Pr Z k4 I E h;refine Ws (oI I hg hm hv ?_ hn hdb);refine V4 (Qb (ha pos ab s σ H Pr Z _ I E h) λus s1 h_=>h_.on λvs H1 ls Z1 I1 r1 hl hb E1 _ q1=>?_) he hpl;obtain⟨ds,rfl,q2⟩:=sG q1;have b0:vs.length=ds.length:=by simpa using hl
 exact Qb (hc ab s1 σ H1 Pr Z1 vs us ds _ I1 r1 (E1.drop (by simp[b0])) (sH b0 E1) q2) λw s2 ⟨z,H2,r,I2,rz,E2,q⟩=>⟨z,H2,r,Z1,I2,rz,E2,q⟩
def cZ:Q7:=λds k=>match ds with
 |[.lst xs]=>k (.d (.int xs.length))
 |[.tup xs]=>k (.d (.int xs.length))
 |[.str x]=>x.length<=sizeLine/\k (.d (.int x.length))
 |_=>False
theorem pT{K:PySem.W.Frag}{H:Hp}{vs:List V}{d:D}(r:bO K H vs [d]):∃v,vs=[v]/\QM K H v d:=by
 cases r with
 |cons h t=>cases t;exact⟨_,rfl,h⟩
theorem LY{K:PySem.W.Frag}{H:Hp}{vs:List V}{d d':D}(r:bO K H vs [d,d']):∃v w,vs=[v,w]/\QM K H v d/\QM K H w d':=by
 cases r with
 | cons h t=>cases t with
  |cons h' t=>cases t;exact⟨_,_,rfl,h,h'⟩
theorem cN:gM X (.builtin "len") cZ:=gM.of (qH.or xu) λσ H Pr Z vs ds k4 E ps h=>by
 unfold cZ at h;split at h
 . obtain⟨v,rfl,r⟩:=pT ps;obtain⟨_,_,rfl,hz,rs⟩:=QM.inv_lst r;exact .inl ⟨_,_,rfl,.inl hz.l,_,E.cons_d (.int _),by rw[rs.length];exact h⟩
 . obtain⟨v,rfl,r⟩:=pT ps;obtain⟨_,_,rfl,hz,rs⟩:=QM.inv_tup r;exact .inl ⟨_,_,rfl,.inr hz,_,E.cons_d (.int _),by rw[rs.length];exact h⟩
 .
  obtain⟨v,rfl,r⟩:=pT ps
  cases r with
  |str z=>exact .inr ⟨_,rfl,h.1,_,E.cons_d (.int _),h.2⟩
 . exact h.elim
def zu:Q7:=λds k=>match ds with
 |[.int i]=>k (.d (.int (if i<0 then -i else i)))
 |_=>False
theorem AV:gM X (.builtin "abs") zu:=gM.of FD λσ H Pr Z vs ds k4 E ps h=>by
 unfold zu at h;split at h
 .
  obtain⟨v,rfl,r⟩:=pT ps
  cases r with
  |int i=>exact⟨_,rfl,_,E.cons_d (.int _),h⟩
 . exact h.elim
def Ds:Q7:=λds k=>match ds with
 |[.int i,.int j]=>k (.d (.int (if j > i then j else i)))
 |_=>False
def zv:Q7:=λds k=>match ds with
 |[.int i,.int j]=>k (.d (.int (if j<i then j else i)))
 |_=>False
theorem HS(hc:X.calm=true):gM X (.builtin "max") Ds:=gM.of (C3 hc) λσ H Pr Z vs ds k4 E ps h=>by
 unfold Ds at h;split at h
 .
  obtain⟨v,w,rfl,r,r'⟩:=LY ps
  cases r with
  | int i=>cases r' with
   |int j=>exact⟨_,_,rfl,_,E.cons_d (.int _),h⟩
 . exact h.elim
theorem AW(hc:X.calm=true):gM X (.builtin "min") zv:=gM.of (C4 hc) λσ H Pr Z vs ds k4 E ps h=>by
 unfold zv at h;split at h
 .
  obtain⟨v,w,rfl,r,r'⟩:=LY ps
  cases r with
  | int i=>cases r' with
   |int j=>exact⟨_,_,rfl,_,E.cons_d (.int _),h⟩
 . exact h.elim
def xC:Q7:=λds k=>match ds with
 |[.int i]=>k (.d (.int i))
 |[.bl b]=>k (.d (.int (if b then 1 else 0)))
 |_=>False
theorem xD:gM X (.type "int") xC:=gM.of C5 λσ H Pr Z vs ds k4 E ps h=>by
 unfold xC at h;split at h
 .
  obtain⟨v,rfl,r⟩:=pT ps
  cases r with
  |int i=>exact .inl ⟨_,rfl,_,E.cons_d (.int _),h⟩
 .
  obtain⟨v,rfl,r⟩:=pT ps
  cases r with
  |bl i=>exact .inr ⟨_,rfl,_,E.cons_d (.int _),h⟩
 . exact h.elim
def sM:Q7:=λds k=>match ds with
 |[.lst xs]=>∀a,k (.own a xs)
 |[.tup xs]=>∀a,k (.own a xs)
 |_=>False
theorem vM:gM X (.type "list") sM:=gM.of xv λσ H Pr Z vs ds k4 E ps h=>by
 unfold sM at h;split at h
 . obtain⟨v,rfl,r⟩:=pT ps;obtain⟨_,_,rfl,hz,rs⟩:=QM.inv_lst r;exact⟨_,_,rfl,.inl hz.l,λl hl=>⟨_,E.cons_own hl rs,h l⟩⟩
 . obtain⟨v,rfl,r⟩:=pT ps;obtain⟨_,_,rfl,hz,rs⟩:=QM.inv_tup r;exact⟨_,_,rfl,.inr hz,λl hl=>⟨_,E.cons_own hl rs,h l⟩⟩
 . exact h.elim
noncomputable def Q8:D->Value
 |.non=>.type "NoneType"
 |.bl _=>.type "bool"
 |.int _=>.type "int"
 |.str _=>.type "str"
 |.tup _=>.type "tuple"
 |.lst _=>.type "list"
 |.dct _=>.type "dict"
 |.exc _ _ _=>.none
 |.fn _ _=>.type "function"
 |.dk _ _=>.type "dict"
 |.gf _=>.type "function"
def Q9(K:PySem.W.Frag)(d:D)(t:Value):Prop:=match d with
 |.exc c _ _=>∃C,t=.ref C/\u4 K c C=true
 |d=>t=Q8 d
theorem FY{ab:List (Addr×Obj)}{σ:St}{H:Hp}{s:Shared}{a:Addr}{o:Obj}{u:HO}{C:Addr}{ns:List Str}{vs:List V}(I:P7 X ab σ H s)(h:H a=some (.frz o u))(hc:o.cls=.ref C)(hn:PySem.W.notCls o=true)(hf:XF H o.dict ns vs):∃od,PySem.W.InstAt s.heap a o C od/\∀d,o.dict=some d->∃q,od=some q/\s.heap.get? d=some q:=by
 have e:=(show s.heap.get? a=some o/\_ from I.hok a _ h).1;rcases hf with⟨_,_,z⟩|⟨d,od,z,h2,_⟩
 . exact⟨none,⟨e,hc,hn,by rw[z];trivial⟩,λd q=>by rw[z]at q;cases q⟩
 . have e2:=(show s.heap.get? d=some od/\_ from I.hok d _ h2).1;exact⟨some od,⟨e,hc,hn,by rw[z];exact e2⟩,λd' q=>by rw[z]at q;cases q;exact⟨od,rfl,e2⟩⟩
theorem FZ{ab:List (Addr×Obj)}{σ:St}{H:Hp}{s:Shared}{x:V}{u c:Value}{d:D}{b:Bool}{Q:Value->Shared->Prop}{A:Around}{E:Value->Shared->Prop}(I:P7 X ab σ H s)(rx:cq x u)(r:QM X.K H x d)(e:∀t,Q9 X.K d t->PySem.W.kitOne X.K t c=some b)(h:∀tk,Q (.bool b) {s with toks:=tk}) :
  wpAny (model X.prog X.w) A (call (.builtin "isinstance") [u,c]) Q E s:=by
 cases r with
 |non=>cases rx;exact VN PySem.W.kitx_none I.kIn True.intro (e _ rfl) (λz=>nomatch z) h
 |bl y=>cases rx;exact VN PySem.W.kitx_bool I.kIn True.intro (e _ rfl) (λz=>nomatch z) h
 |int i=>obtain⟨t,rfl⟩:=rx;exact VN PySem.W.kitx_int I.kIn True.intro (e _ rfl) (λz=>nomatch z) h
 |str y=>obtain⟨t,rfl⟩:=rx;exact VN PySem.W.kitx_str I.kIn True.intro (e _ rfl) (λz=>nomatch z) h
 | lst hz rs =>
  cases rx;obtain⟨its,_,⟨o,n,e1,c1,_,_⟩,_⟩:=I.list hz.l;exact VN PySem.W.kitx_list I.kIn ⟨o,e1,c1⟩ (e _ rfl) (λz=>nomatch z) h
 | tup hz rs =>
  cases rx;obtain⟨its,_,⟨o,e1,c1,_⟩,_⟩:=I.tuple hz;exact VN PySem.W.kitx_tuple I.kIn ⟨o,e1,c1⟩ (e _ rfl) (λz=>nomatch z) h
 | @dct a o kvs hz =>
  cases rx;obtain⟨_,_,_,vs,_,o',es,ep,h1,h2,_⟩:=(show iH X.prog X.w H s.heap a (.frz o (.dK kvs))from I.hok a _ hz);exact VN PySem.W.kitx_dict I.kIn ⟨o',h1,h2.1⟩ (e _ rfl) (λz=>nomatch z) h
 | @exc a o u cc C ns vs ds h1 hv hc hn hs hq hf rs =>
  cases rx;obtain⟨od,Ia,_⟩:=FY I h1 hc hn hf;obtain⟨LL,cd,S⟩:=xA hs;exact VN (FL S) I.kIn ⟨_,_,Ia⟩ (e _ ⟨C,rfl,hs⟩) (λz=>nomatch z) h
 | fn hl hf hq hc hz hd hv hm r =>
  cases rx;exact VN De I.kIn ⟨_,(I.hok _ _ hf).1,rfl⟩ (e _ rfl) (λz=>nomatch z) h
 | @dk a' o kvs ds hz rs =>
  cases rx;obtain⟨_,_,_,vs,_,o',es,ep,h1,h2,_⟩:=(show iH X.prog X.w H s.heap a' (.frz o (.dK kvs))from I.hok a' _ hz);exact VN PySem.W.kitx_dict I.kIn ⟨o',h1,h2.1⟩ (e _ rfl) (λz=>nomatch z) h
 | gf hx hl hk =>
  cases rx;exact VN De I.kIn ⟨_,I.kIn _ _ hl,rfl⟩ (e _ rfl) (λz=>nomatch z) h
noncomputable def oG(T:String):D->Bool
 |.non=>T == "NoneType"
 |.bl _=>T == "bool" ||T == "int"
 |.int _=>T == "int"
 |.str _=>T == "str"
 |.tup _=>T == "tuple"
 |.lst _=>T == "list"
 |.dct _=>T == "dict"
 |.exc _ _ _=>(["ValueError","Exception","BaseException","object"]:List String).contains T
 |.fn _ _=>T == "function"
 |.dk _ _=>T == "dict"
 |.gf _=>T == "function"
def gN(T:String):D->(L->Prop)->Prop:=λd k=>k (.d (.bl (oG T d)))
theorem dY{T:String}{y:Str}{py:Pos}(hT:∀ K d t,Q9 K d t->PySem.W.kitOne K t (.type T)=some (oG T d)) (hg:Gl X "isinstance") (hm:X.mg "isinstance"=none) (hy:Gl X y) (hmy:X.mg y=none) (hby:bootBuiltins y=some (.type T)) (ha:PL X a ta)
  (hny:y≠"__name__":=by decide) (hdy:(y == ("__debug__" : Str))=false:=by decide)
  (h1:starEach [a,.Name y py] X.env=(false,eval a X.env)::starEach [.Name y py] X.env:=by rfl) (h2:starEach [.Name y py] X.env=[(false,eval (.Name y py) X.env)]:=by rfl) (hpl:(backTo pos (starEach [.Name y py] X.env)).any (·.1)=false:=by rfl) :
  PL X (.Call (.Name "isinstance" p) [a,.Name y py] [] pos) (QY (gN T) ta):=by
 have cr:kG X (.builtin "isinstance") (λxs H Q=>∃ x d,xs=[x,.ty T]/\QM X.K H x d/\Q (.bl (oG T d)) H):=by intro ab s σ H xs us Q I rv h;obtain⟨x,d,rfl,r,q⟩:=h;obtain⟨u,w,rfl,r1,r2⟩:=IT rv;cases r2;exact FZ I r1 r (hT _ d) λtk=>⟨.bl _,H,I.tok _,rfl,q⟩
 refine PL.of (AO cr hg hm y_ (gW (az ha).pe (gW (IQ hy hmy hby (v:=.ty T) rfl hny hdy) sq h2) h1) (he:=h1) (hpl:=hpl)) λσ H Pr Z k4 E h=>?_
 refine⟨Pr,Z,λr Z1=>match r with
  |.d x=>gN T x λr=>k4 r Z1
  |_=>False,E,h,λv H' r Z' E' p=>?_⟩
 cases r with
 | d x =>
  obtain⟨_,e1,p1⟩:=E'.head_d;cases e1;exact⟨_,x,rfl,p1,_,Z',E'.tail.cons_d (.bl _),p⟩
 |_=>exact p.elim
end
section
variable{X:Cx}{e a b:Expr}{pos p apos cpos:Pos}{tb te:W L}{x:Str}
theorem aF.updOwn{K:PySem.W.Frag}{Pr H:Hp}{σ:St}{Z:Ev}{i:Nat}{l:Addr}{xs ys:List D}{vs:List V}(E:aF K Pr H σ Z)(q:Z[i]?=some (.own l xs))(r:bO K H vs ys):aF K Pr (PY H l (.lst vs)) σ (Z.set i (.own l ys)):=by obtain⟨sv,hs,rfl,_⟩:=E.slot q;have hi:i<Z.length:=(k5.mp q).1;have E1:=(E.out q).write r;have E2:=E1.back (i:=i) (by simp[hi]) hs;rw[Wd]at E2;exact E2
theorem aF.ownAt{K:PySem.W.Frag}{Pr H:Hp}{σ:St}{Z:Ev}{i:Nat}{l:Addr}{xs:List D}(E:aF K Pr H σ Z)(q:Z[i]?=some (.own l xs)):σ[i]?=some (some (.ref l))/\∃vs,H l=some (.lst vs)/\bO K H vs xs:=by obtain⟨sv,hs,rfl,r⟩:=E.slot q;exact⟨hs,r⟩
def B5(i:Nat)(Z:Ev)(k:Addr->List D->Prop):Prop:=match Z[i]? with
 |some (.own a xs)=>k a xs
 |_=>False
theorem nJ{i:Nat}{Z:Ev}{k:Addr->List D->Prop}(h:B5 i Z k):∃a xs,Z[i]?=some (.own a xs)/\k a xs:=by
 unfold B5 at h
 cases q:Z[i]? with
 |none=>rw[q]at h;exact h.elim
 | some l =>
  rw[q]at h
  cases l with
  |own a xs=>exact⟨a,xs,rfl,h⟩
  |un=>exact h.elim
  |d x=>exact h.elim
  |bx _ _=>exact h.elim
  |dic _ _=>exact h.elim
def F0(i:Nat)(te:W L):W L:=λZ k4=>B5 i Z λ_ _=>te Z λr Z1=>QS r λy=>B5 i Z1 λa xs=>xs.length<sizeLine/\k4 (.d .non) (Z1.set i (.own a (xs++[y])))
theorem gY(i:Nat)(he:PL X e te)(hN:X.N[i]?=some x:=by rfl)(hv:P5 X.env.scope x:=by first | exact Or.inl rfl | exact Or.inr (Or.inl rfl) | exact Or.inr (Or.inr rfl)) (hd:(x == ("__debug__" : Str))=false:=by decide)
  (hcd:(x == ("__classdict__" : Str))=false:=by decide) (hs1:starEach [e] X.env=[(false,eval e X.env)]:=by rfl) (hbase:attributeBase (.Name x p) "append" X.env (eval (.Name x p) X.env)=eval (.Name x p) X.env:=by rfl)
  (hfew:((backTo cpos (starEach [e] X.env)).all (λx=>!x.1) && (backToKw cpos (keywordEach [] X.env)).all (λx=>x.1.isSome)
   && decide (([e]).length+([]:List Keyword).length+(if([]:List Keyword).isEmpty then 0 else 1)<30))=true:=by rfl)
  (hline:(apos.endLine == cpos.line)=true:=by rfl) (hplain:(backTo cpos (starEach ([]:List Expr) X.env)).any (·.1)=false:=by rfl) :
  PL X (.Call (.Attribute (.Name x p) "append" apos) [e] [] cpos) (F0 i te):=by
 refine PL.of (LC PySem.F.plainAttrs_list PySem.F.slot_list_append PySem.F.type_list_append xw (ke hN hv hd hcd) (gW (az he).pe sq hs1) (hbase:=hbase) (hfew:=hfew) (hline:=hline) (hs:=hs1) (hplain:=hplain)) λσ H Pr Z k4 E h=>?_;obtain⟨l,xs0,q0,h⟩:=nJ h;obtain⟨hσ,vs0,hl0,_⟩:=E.ownAt q0
 refine⟨.ref l,hσ,.inl ⟨rfl,vs0,Qe.of hl0⟩,Pr,Z,λr Z1=>match r with
  |.d y=>B5 i Z1 λa xs=>xs.length<sizeLine/\k4 (.d .non) (Z1.set i (.own a (xs++[y])))
  |_=>False,E,h,λv H' r Z' E' pp=>?_⟩
 cases r with
 | d y =>
  obtain⟨l',xs,q,b0,pp⟩:=nJ pp;obtain⟨hσ',vs,hl,r⟩:=E'.tail.ownAt q;rw[hσ]at hσ';cases hσ';obtain⟨_,e1,p1⟩:=E'.head_d;cases e1;exact⟨l,vs,v,rfl,rfl,hl,by rw[r.length];exact b0,_,_,(E'.tail.updOwn q (r.append (.cons p1 .nil))).cons_d .non,pp⟩
 |_=>exact pp.elim
def y6(i:Nat)(tb:W L):W L:=λZ k4=>B5 i Z λ_ _=>tb Z λr Z1=>nH r λj=>B5 i Z1 λ_ xs=>∃y,Qz xs j=some y/\k4 (.d y) Z1
theorem ir(i:Nat)(hb:PL X b tb)(hs:vG b)(hN:X.N[i]?=some x:=by rfl)(hv:P5 X.env.scope x:=by first | exact Or.inl rfl | exact Or.inr (Or.inl rfl) | exact Or.inr (Or.inr rfl)) (hd:(x == ("__debug__" : Str))=false:=by decide)
  (hcd:(x == ("__classdict__" : Str))=false:=by decide):PL X (.Subscript (.Name x p) b pos) (y6 i tb):=by
 refine PL.of (Lx zg (ke hN hv hd hcd) hb.pe hs) λσ H Pr Z k4 E h=>?_;obtain⟨l,xs0,q0,h⟩:=nJ h;obtain⟨hσ,vs0,hl0,_⟩:=E.ownAt q0;refine⟨.ref l,hσ,Pr,Z,_,E,h,λv H' r Z' E' pp=>?_⟩;obtain⟨j,rfl,pp⟩:=eG pp;obtain⟨l',xs,q,y,hy,pp⟩:=nJ pp;obtain⟨hσ',vs,hl,r⟩:=E'.tail.ownAt q;rw[hσ]at hσ';cases hσ';obtain⟨_,e1,p1⟩:=E'.head_d;cases e1;obtain rfl:=QM.inv_int p1;obtain⟨w,hw,rw⟩:=zt r hy;exact⟨l,vs,j,w,rfl,rfl,Qe.of hl,hw,_,Z',E'.tail.cons_d rw,pp⟩
def Jt(i:Nat):W L:=λZ k4=>B5 i Z λ_ xs=>k4 (.d (.int xs.length)) Z
theorem Ju(i:Nat) (hg:Gl X "len") (hm:X.mg "len"=none) (hN:X.N[i]?=some x:=by rfl) (hv:P5 X.env.scope x:=by first | exact Or.inl rfl | exact Or.inr (Or.inl rfl) | exact Or.inr (Or.inr rfl)) (hd:(x == ("__debug__" : Str))=false:=by decide)
  (hcd:(x == ("__classdict__" : Str))=false:=by decide) (h1:starEach [.Name x p] X.env=[(false,eval (.Name x p) X.env)]:=by rfl) (hpl:(backTo pos (starEach ([]:List Expr) X.env)).any (·.1)=false:=by rfl) :
  PL X (.Call (.Name "len" apos) [.Name x p] [] pos) (Jt i):=by
 refine PL.of (AO qH hg hm PySem.boot_len (gW (ke hN hv hd hcd) sq h1) (he:=h1) (hpl:=hpl)) λσ H Pr Z k4 E h=>?_;obtain⟨l,xs0,q0,h⟩:=nJ h;obtain⟨hσ,vs0,hl0,r⟩:=E.ownAt q0;exact⟨.ref l,hσ,l,vs0,rfl,.inl (Qe.of hl0),_,Z,E.cons_d (.int _),by rw[r.length];exact h⟩
def sN(i:Nat)(tb te:W L):W Fl:=λZ k4=>te Z λr Z1=>QS r λy=>B5 i Z1 λ_ _=>tb Z1 λr Z2=>nH r λj=>B5 i Z2 λa xs=>∃k,Qy xs.length j=some k/\k4 .nx (Z2.set i (.own a (xs.set k y)))
theorem jy(i:Nat){b:Expr}{ps:Pos}(hb:PL X b tb)(he:PL X e te)(hN:X.N[i]?=some x:=by rfl)(hv:P5 X.env.scope x:=by first | exact Or.inl rfl | exact Or.inr (Or.inl rfl) | exact Or.inr (Or.inr rfl)) (hd:(x == ("__debug__" : Str))=false:=by decide)
  (hcd:(x == ("__classdict__" : Str))=false:=by decide)
  (ha:∀v,assign (.Subscript (.Name x p) b ps) X.env v=(do
   let ov <- holding [v] (eval (.Name x p) X.env)
   let iv <- holding [v,ov] (eval b X.env)
   standAt ps
   holding [v,ov,iv] (setItem ov iv v)
   release [v,ov,iv] []):=by intro _;rfl)
  (hs:swapsWithSole [.Subscript (.Name x p) b ps] e pos.line X.env=pure false:=by rfl) (hw:swappedStores [.Subscript (.Name x p) b ps] e X.env=pure none:=by rfl)
  (h1:(assignEach [.Subscript (.Name x p) b ps] X.env).map (·.2)=[assign (.Subscript (.Name x p) b ps) X.env]:=by rfl):PM X (.Assign [.Subscript (.Name x p) b ps] e pos) (sN i tb te):=by
 refine PM.of (Li (az he).pe (Lh (ke hN hv hd hcd) hb.pe FH ha) hs hw h1) λσ H Pr Z k4 b0 E h=>?_
 refine⟨Pr,Z,λr Z1=>match r with
  |.d y=>B5 i Z1 λ_ _=>tb Z1 λr Z2=>nH r λj=>B5 i Z2 λa xs=>∃k,Qy xs.length j=some k/\k4 .nx (Z2.set i (.own a (xs.set k y)))
  |_=>False,E,h,λv H' r Z' E' pp=>?_⟩
 cases r with
 | d y =>
  obtain⟨l,xs0,q0,pp⟩:=nJ pp;obtain⟨hσ,vs0,hl0,_⟩:=E'.tail.ownAt q0;refine⟨.ref l,hσ,bE H' Z',Z',_,E'.tail.wide,pp,λw H2 r2 Z2 E2 pp=>?_⟩;obtain⟨j,rfl,pp⟩:=eG pp;obtain⟨l',xs,q,k,hk,pp⟩:=nJ pp;obtain⟨_,e1,p1⟩:=E2.head_d;cases e1;obtain rfl:=QM.inv_int p1;have E3:aF X.K Pr H2 (some (.int j)::some v::σ) (.d (.int j)::.d y::Z2):=aF.step (τ:=[some v]) (lam:=[.d y]) (w:=[some (.int j)]) (μ:=[.d (.int j)]) E' rfl E2 rfl;obtain⟨_,e1,p1⟩:=E3.tail.head_d;cases e1;obtain⟨hσ',vs,hl,r⟩:=E3.tail.tail.ownAt q;rw[hσ]at hσ';cases hσ';refine⟨l,vs,j,k,rfl,rfl,hl,by rw[r.length];exact hk,_,E3.tail.tail.updOwn q (r.set p1 k),pp⟩
 |_=>exact pp.elim
def B6:Option (W L)->Ev->(Option Int->Ev->Prop)->Prop
 |none=>λZ k=>k none Z
 |some t=>λZ k=>t Z λr Z1=>nH r λi=>k (some i) Z1
noncomputable def CK{α:Type}(xs:List α)(lo hi:Option Int):List α:=(xs.drop (HT.sIx xs.length 0 lo)).take (HT.sIx xs.length xs.length hi-HT.sIx xs.length 0 lo)
end
noncomputable def bI:List Nat->Ev->Ev
 |[],Z=>Z
 |j::r,Z=>(bI r Z).set j .un
noncomputable def di(fi:List Nat)(Z:Ev):Ev:=fi.map λj=>(Z[j]?).getD .un
noncomputable def cw(fi:List Nat)(σ:St):St:=fi.map λj=>(σ[j]?).getD none
noncomputable def i6:List Nat->Ev->Ev->Ev
 |j::r,c::cs,Z=>i6 r cs (Z.set j c)
 |_,_,Z=>Z
theorem gZ:∀(fi:List Nat)(Z:Ev),(bI fi Z).length=Z.length
 |[],_=>rfl
 |j::r,Z=>by unfold bI;rw[VP,gZ r Z]
theorem xE:∀(fi:List Nat)(Z:Ev)(j:Nat),j∉fi->(bI fi Z)[j]?=Z[j]?
 |[],_,_,_=>rfl
 | i::r,Z,j,h=>by unfold bI;rw[Vp (λe=>h (by simp[e])),xE r Z j λe=>h (gV _ e)]
theorem AX:∀(fi:List Nat)(Z:Ev)(j:Nat),j∈fi->j<Z.length->(bI fi Z)[j]?=some .un
 | i::r,Z,j,h,hl=>by
  unfold bI;by_cases e:i=j
  . subst e;rw[Vo (by rw[gZ];exact hl)]
  . rw[Vp e];exact AX r Z j ((UV.mp h).resolve_left λz=>e z.symm) hl
section
variable{K:PySem.W.Frag}{Pr H:Hp}{σ:St}{Z:Ev}
theorem aF.takeAt(E:aF K Pr H σ Z){i:Nat}{l:L}{s:Option V}(h:Z[i]?=some l)(hs:σ[i]?=some s):aF K Pr H (s::σ) (l::Z.set i .un):=E.outL h hs
theorem aF.takes(E:aF K Pr H σ Z):∀(fi:List Nat),fi.Nodup->(∀j∈fi,j<Z.length)->aF K Pr H (cw fi σ++σ) (di fi Z++bI fi Z)
 |[],_,_=>E
 | j::r,nd,hl=>by
  have ih:=E.takes r (Vf.mp nd).2 λi hi=>hl i (gV _ hi);have hj:j<Z.length:=hl j p4;have hjs:j<σ.length:=by rw[E.len];exact hj
  have e1:(di r Z++bI r Z)[r.length+j]?=some Z[j]:=by rw[Vb (by simp[di])];simp only[di,UN,Vj];rw[xE r Z j (Vf.mp nd).1];exact fI hj
  have e2:(cw r σ++σ)[r.length+j]?=some σ[j]:=by rw[Vb (by simp[cw])];simp only[cw,UN,Vj];exact fI hjs
  have z:=ih.takeAt e1 e2;rw[Wx _ _ (by simp[di])]at z;simp only[di,UN,Vj]at z;have c1:cw (j::r) σ=σ[j]::cw r σ:=by simp[cw,hjs]
  have c2:di (j::r) Z=Z[j]::di r Z:=by simp[di,hj]
  rw[c1,c2];exact z
theorem aF.backs:∀(fi:List Nat){cs Z:Ev},fi.Nodup->cs.length=fi.length->(∀j∈fi,Z[j]?=some .un)->(∀j∈fi,j<σ.length)->aF K Pr H (cw fi σ++σ) (cs++Z)->aF K Pr H σ (i6 fi cs Z)
 |[],[],Z,_,_,_,_,E=>E
 | j::r,c::cs,Z,nd,hl,hu,hs,E=>by
  have hjs:j<σ.length:=hs j p4;have hj:=hu j p4;have c1:cw (j::r) σ=σ[j]::cw r σ:=by simp[cw,hjs]
  rw[c1]at E;have hlr:cs.length=r.length:=by simpa using hl
  have z:=aF.back (σ:=cw r σ++σ) (Z:=cs++Z) (l:=c) E (i:=r.length+j) (by
   rw[Vb xL,hlr,Vj];exact hj) (by
   rw[Vb (by simp[cw])];simp only[cw,UN,Vj]
   exact fI hjs)
  rw[Wx _ _ xL,hlr,Vj]at z
  exact aF.backs r (Vf.mp nd).2 hlr (λi hi=>by
   rw[Vp (λe=>(Vf.mp nd).1 (by rw[e];exact hi))];exact hu i (gV _ hi)) (λi hi=>hs i (gV _ hi)) z
 |[],_::_,_,_,hl,_,_,_=>by simp at hl
 |_::_,[],_,_,hl,_,_,_=>by simp at hl
end
noncomputable def xF(cells:List (Str×Addr)):List (Str×NameKind)->List (Str×Addr)->List (Str×Addr)
 |[],acc=>acc
 |(n,k)::r,acc=>xF cells r (if k == .free then(match cells.lookup n with|some c=>(n,c)::acc|none=>acc)else acc)
theorem pU{env:Env}:∀(names:List (Str×NameKind))(acc:List (Str×Addr)),(∀x∈names,x.2=.free->∃c,env.cells.lookup x.1=some c) ->
  (forIn names acc λ(x:Str×NameKind) (cs:List (Str×Addr))=>(if x.2 == .free then do let c <- cellOf env x.1;pure (ForInStep.yield ((x.1,c)::cs))else pure (ForInStep.yield cs):Sem (ForInStep (List (Str×Addr)))))=pure (xF env.cells names acc)
 |[],acc,_=>rfl
 | (n,k)::r,acc,h=>by
  rw[List.forIn_cons];by_cases hk:(k == NameKind.free)=true
  .
   obtain⟨c,hc⟩:=h (n,k) p4 (by simpa using hk);have e:cellOf env n=pure c:=by unfold cellOf;rw[show env.cells.lookup n=some c from hc]
   simp only[hk,Ww,e,pure_bind,xF,hc];exact pU r _ λx hx=>h x (gV _ hx)
  . simp only[hk,xF,Wv,pure_bind];exact pU r _ λx hx=>h x (gV _ hx)
theorem oP{scope:Scope}{env:Env}(h:∀x∈scope.names,x.2=.free->∃c,env.cells.lookup x.1=some c):closureFor scope env=pure (xF env.cells scope.names []):=by have:=pU (env:=env) scope.names [] h;unfold closureFor;simp only[bind_pure_comp]at this ⊢;rw[this];rfl
theorem AY{cells:List (Str×Addr)}:∀(names:List (Str×NameKind))(acc:List (Str×Addr)),(∀x c,acc.lookup x=some c->cells.lookup x=some c)->∀x c,(xF cells names acc).lookup x=some c->cells.lookup x=some c
 |[],acc,h,x,c,e=>h x c e
 | (n,k)::r,acc,h,x,c,e=>by
  unfold xF at e;refine AY r _ (λy d ey=>?_) x c e;split at ey
  .
   split at ey
   .
    rename_i q;rw[Vr]at ey;split at ey
    .
     rename_i e2;have:y=n:=by simpa using e2
     cases ey;rw[this];exact q
    . exact h y d ey
   . exact h y d ey
  . exact h y d ey
theorem rl{n:Str}{c:Addr}{acc:List (Str×Addr)}{x:Str}(h:∃d,acc.lookup x=some d):∃d,((n,c)::acc).lookup x=some d:=by
 rw[Vr];split
 . exact⟨_,rfl⟩
 . exact h
theorem vN{cells:List (Str×Addr)}:∀(names:List (Str×NameKind))(acc:List (Str×Addr))(x:Str),((∃d,acc.lookup x=some d)∨((x,NameKind.free)∈names/\∃c,cells.lookup x=some c))->∃d,(xF cells names acc).lookup x=some d
 | [],acc,x,h=>by
  rcases h with h|⟨h,_⟩
  . exact h
  . simp at h
 | (n,k)::r,acc,x,h=>by
  unfold xF;refine vN r _ x ?_;rcases h with h|⟨hm,c,hc⟩
  .
   left;split
   .
    split
    . exact rl h
    . exact h
   . exact h
  .
   rcases UV.mp hm with e|hm
   . cases e;left;simp only[hc,beq_self_eq_true,Ww];exact⟨c,by simp[Vr]⟩
   . exact .inr ⟨hm,c,hc⟩
noncomputable def kf(X:Cx)(scope:Scope)(cl:List (Str×Addr))(Nb:List Str)(s₀:Shared)(H₀:Hp)(fp:List Addr):Cx :=
 {X with N:=Nb,s₀:=s₀,H₀:=H₀,env:=compEnvC scope cl s₀.heap.objs.size X.env,outer:=X.stack,stack:=X.stack,ex:=fp,fn:=λ_=>false,pn:=[],xe:=λ_ _=>False}
theorem l7{α β:Type}{F:α->β->Prop}:∀{a:List α}{b:List β},Paired F a b↔a.length=b.length/\∀p∈a.zip b,F p.1 p.2
 |[],[]=>⟨λ_=>⟨rfl,λ_ h=>by simp at h⟩,λ_=>.nil⟩
 |[],_::_=>⟨(λh=>nomatch h),λh=>by simp at h⟩
 |_::_,[]=>⟨(λh=>nomatch h),λh=>by simp at h⟩
 | x::a,y::b=>by
  constructor
  .
   intro h
   cases h with
   | cons r t =>
    obtain⟨h1,h2⟩:=l7.mp t
    exact⟨by simp[h1],λp hp=>by
     rw[Wr]at hp;rcases UV.mp hp with rfl|hp
     . exact r
     .
      exact h2 p hp⟩
  . rintro⟨hl,h⟩;exact .cons (h (x,y) x_) (l7.mpr ⟨by simpa using hl,λp hp=>h p (by rw[Wr];exact gV _ hp)⟩)
theorem vO:∀{σ:St}{Z:Ev},σ.length=Z.length->(σ.zip Z).map (·.2)=Z
 |[],[],_=>rfl
 | _::σ,l::Z,h=>by have ih:=vO (σ:=σ) (Z:=Z) (by simpa using h);rw[Wr,Ve,ih]
 |[],_::_,h=>by simp at h
 |_::_,[],h=>by simp at h
theorem aF.rearr{K:PySem.W.Frag}{Pr H:Hp}{σ σ2:St}{Z Z2:Ev}(E:aF K Pr H σ Z)(hl:σ2.length=Z2.length)(extra:List (Option V×L))(h:(σ.zip Z).Perm (σ2.zip Z2++extra)):aF K Pr H σ2 Z2:=by
 have pm:(owns Z).Perm (owns Z2++owns (extra.map (·.2))):=by have q:=oN (h.map (·.2));rw[VQ,vO E.len,vO hl,aK]at q;exact q
 refine⟨E.sub,(Vq.mp (pm.nodup_iff.mp E.nd)).1,λa ha=>E.off a (pm.mem_iff.mpr (U8 _ ha)),l7.mpr ⟨hl,λp hp=>?_⟩⟩;exact(l7.mp E.sl).2 p (h.mem_iff.mpr (U8 _ hp))
theorem xG{fi:List Nat}{σ τ:St}(h:∀j∈fi,j<σ.length):cw fi (σ++τ)=cw fi σ:=by unfold cw;refine WD λj hj=>?_;rw[U9 (h j hj)]
theorem B7{fi:List Nat}{σ τ:Ev}(h:∀j∈fi,j<σ.length):di fi (σ++τ)=di fi σ:=by unfold di;refine WD λj hj=>?_;rw[U9 (h j hj)]
theorem xH{τ:Ev}:∀{fi:List Nat}{Z:Ev},(∀j∈fi,j<Z.length)->bI fi (Z++τ)=bI fi Z++τ
 |[],_,_=>rfl
 | j::r,Z,h=>by unfold bI;rw[xH λi hi=>h i (gV _ hi),Wf _ _ (by rw[gZ];exact h j p4)]
theorem u9{τ:Ev}:∀{fi:List Nat}{cs Z:Ev},(∀j∈fi,j<Z.length)->i6 fi cs (Z++τ)=i6 fi cs Z++τ
 |[],[],_,_=>rfl
 |[],_::_,_,_=>rfl
 |_::_,[],_,_=>rfl
 | j::r,c::cs,Z,h=>by unfold i6;rw[Wf _ _ (h j p4)];exact u9 λi hi=>by rw[VP];exact h i (gV _ hi)
theorem g5{env:Env}:∀{names:List (Str×NameKind)}{x:Str},names.lookup x=some .free ->
  (names.map λ(n,k)=>if(k == NameKind.free && env.scope.kind == .function && env.kindOf n == some .cell)then(n,NameKind.cell)else(n,k)).lookup x=some .cell ∨
  (names.map λ(n,k)=>if(k == NameKind.free && env.scope.kind == .function && env.kindOf n == some .cell)then(n,NameKind.cell)else(n,k)).lookup x=some .free
 |[],_,h=>by simp at h
 | (n,k)::r,x,h=>by
  have ih:=@g5 env r x;rw[Ve]
  cases hx:x == n with
  | true =>
   simp only[Vr,hx]at h;cases h;dsimp only;by_cases hc:(NameKind.free == NameKind.free && env.scope.kind == .function && env.kindOf n == some .cell)=true
   . left;rw[if_pos hc];simp[Vr,hx]
   . right;rw[if_neg hc];simp[Vr,hx]
  | false =>
   simp only[Vr,hx]at h;dsimp only;by_cases hc:(k == NameKind.free && env.scope.kind == .function && env.kindOf n == some .cell)=true
   . rw[if_pos hc];simp only[Vr,hx];exact ih h
   . rw[if_neg hc];simp only[Vr,hx];exact ih h
theorem jz{env:Env}:∀{names:List (Str×NameKind)}{x:Str}{k:NameKind},(∀y∈names,y.2≠.cell)->(k=.cell∨k=.free) ->
  (names.map λ(n,k)=>if(k == NameKind.free && env.scope.kind == .function && env.kindOf n == some .cell)then(n,NameKind.cell)else(n,k)).lookup x=some k->(x,NameKind.free)∈names
 |[],_,_,_,_,h=>by simp at h
 | (n,k0)::r,x,k,hc,hk,h=>by
  rw[Ve]at h
  (try dsimp only at h)
  by_cases q:(k0 == NameKind.free && env.scope.kind == .function && env.kindOf n == some .cell)=true
  .
   rw[if_pos q,Vr]at h;have e0:k0=.free:=by have:=(WC.mp (WC.mp q).1).1;simpa using this
   split at h
   .
    rename_i e;have:x=n:=by simpa using e
    subst this e0;exact p4
   . exact gV _ (jz (λy hy=>hc y (gV _ hy)) hk h)
  .
   rw[if_neg q,Vr]at h;split at h
   .
    rename_i e;have:x=n:=by simpa using e
    subst this;have e1:k0=k:=by simpa using h
    subst e1;rcases hk with z|z
    . exact absurd z (hc (x,k0) p4)
    . subst z;exact p4
   . exact gV _ (jz (λy hy=>hc y (gV _ hy)) hk h)
section
variable{prog:Program}{w:World}{A:Around}{R:Result->Shared->Prop}
theorem Dt{elt target iter:Expr}{ifs:List Expr}{scope:Scope}{pos:Pos}{it acc:Value}{env:Env}(I:Nat->Shared->Prop)
  (turn:∀n s,I n s->wpAny (model prog w) A (pyNext it) (λr s₁=>match r with
   |none=>R (.ok .next) s₁
   | some v=>wpAny (model prog w) A (letOwnedTupleGo target it v) (λ_ s₀=>wpAny (model prog w) A (assign target env v) (λ_ s₂ =>
     wpAny (model prog w) A (forIn ifs true λc r=>if r=true then do let ok <- isTrue c env (eval c env);pure (ForInStep.yield ok)else pure (ForInStep.yield r)) (λok s₃ =>
      if ok=true then wpAny (model prog w) A (eval elt env) (λx s₄ =>
       wpAny (model prog w) A (call (.builtin "list.append") [acc,x]) (λ_ s₅=>∃ m,m < n/\I m s₅) (λ_ _=>False) s₄) (λ_ _=>False) s₃
      else ∃m,m<n/\I m s₃) (λ_ _=>False) s₂) (λ_ _=>False) s₀) (λ_ _=>False) s₁) (λ_ _=>False) s)
  (n:Nat) {s:Shared} (h:I n s) :
  codeAny (model prog w) A (.compLoop (.ListComp elt [⟨target,iter,ifs,0⟩] scope pos) 0 it acc env) R s:=by
 refine codeAny_loop rfl I (λn s hI=>?_) n h
 show wpAny _ A ((compTurn (.ListComp elt [⟨target,iter,ifs,0⟩] scope pos) 0 it acc env).onRaise (λx=>do noteFrame x env;theTreesLotGoes x)) _ _ s
 refine wpAny_noted ?_;rw[compTurn_list];have fe:∀{α:Type}{t:Sem α}{Q:α->Shared->Prop}{E:Value->Shared->Prop}{s:Shared},wpAny (model prog w) A t Q (λ_ _=>False) s->wpAny (model prog w) A t Q E s:=λh=>V7 h (λ_ _ q=>q) λ_ _ z=>z.elim;refine UL (wpAny_standAt (UL (V7 (turn n s hI) (λr s₁ h₁=>?_) λ_ _ h'=>h'.elim)))
 cases r with
 |none=>exact U0 h₁
 | some v =>
  refine UL (V7 h₁ (λ_ s₀ h₀=>?_) λ_ _ z=>z.elim);refine UL (V7 h₀ (λ_ s₂ h₂=>UL (V7 h₂ (λok s₃ h₃=>?_) λ_ _ h'=>h'.elim)) λ_ _ h'=>h'.elim)
  cases ok with
  |false=>exact U0 ⟨rfl,h₃⟩
  | true =>
   exact UL (UL (V7 h₃ (λx s₄ h₄=>UL (V7 h₄ (λ_ s₅ h₅=>U0 (U0 ⟨rfl,h₅⟩)) λ_ _ h'=>h'.elim)) λ_ _ h'=>h'.elim))
end
def Ra(X:Cx)(tg:Expr)(n:Nat)(g:Tg):Prop:=∃gg:TG,PG X tg gg/\∀v σ H Pr Z x k,σ.length=X.N.length->aF X.K Pr H σ Z->QM X.K H v x->g x Z k->gg v σ H λσ' H'=>H'=H/\σ'.drop n=σ.drop n/\∃Z',aF X.K Pr H σ' Z'/\k Z'
theorem iI{X:Cx}{i n:Nat}{x:Str}{pos:Pos}(hn:i<n)(hN:X.N.Nodup)(hi:X.N[i]?=some x)(hx:P6 X.env.scope x)(hf:X.fn x=true∨X.env.scope.names.lookup x=some .local:=by first|exact .inl rfl|exact .inr rfl|assumption):Ra X (.Name x pos) n (bj i) :=
 ⟨_,vF hN hi hx hf,λv σ H Pr Z x k hl E r h=>⟨rfl,by rw[List.drop_set_of_lt hn],_,(E.cons_d r).store (by rw[hl];exact(k5.mp hi).1),h⟩⟩
def Rb(X:Cx)(ifs:List Expr)(t:W Bool):Prop :=
 ∀(ab:List (Addr×Obj))(s:Shared)(σ:St)(H Pr:Hp)(Z:Ev)(k4:Bool->Ev->Prop),P7 X ab σ H s->aF X.K Pr H σ Z->t Z k4 ->
  wpAny (model X.prog X.w) X.A (forIn ifs true λc r=>if r=true then do let ok <- isTrue c X.env (eval c X.env);pure (ForInStep.yield ok)else pure (ForInStep.yield r)) (EB X ab σ Pr k4) X.xe s
def kK:W Bool:=λZ k4=>k4 true Z
theorem jA{X:Cx}:Rb X [] kK:=λab s σ H Pr Z k4 I E h=>wpAny_tests_nil ⟨H,Z,I,E,h⟩
theorem vP{X:Cx}{c:Expr}{t:W Bool}(h:PB X c t):Rb X [c] t:=λab s σ H Pr Z k4 I E ht=>wpAny_tests_one (h ab s σ H Pr Z k4 I E ht)
def eI(g:Tg)(ti:W Bool)(te:W L):List D->Ev->List D->(List D->Ev->Prop)->Prop
 |[],Z,acc,k=>k acc Z
 |x::xs,Z,acc,k=>g x Z λZ1=>ti Z1 λb Z2=>if b=true then te Z2 λr Z3=>QS r λy=>eI g ti te xs Z3 (acc++[y]) k else eI g ti te xs Z2 acc k
def kL(n:Nat)(fi:List Nat)(src:W (List D))(g:Tg)(ti:W Bool)(te:W L):W L:=λZ k4=>src Z λxs Z1=>xs.length<=sizeLine /\
 eI g ti te xs (List.replicate n .un++di fi Z1) [] λys ρb=>∀a,k4 (.own a ys) (i6 fi (ρb.drop n) (bI fi Z1))
section
variable{X:Cx}
theorem xI{elt tg iter:Expr}{ifs:List Expr}{scope sc:Scope}{pos:Pos}{N Nt Nf:List Str}{fi:List Nat}{src:W (List D)}{g:Tg}{ti:W Bool}{te:W L}
  (hsc:X.env.scope=sc) (hXN:X.N=N) (hc:X.calm=true) (hi:Q4 X tg iter src)
  (hkind:scope.kind=.function) (hnames:∀x∈scope.names,x.2=.local->scope.names.lookup x.1=some .local) (hcell:∀y∈scope.names,y.2≠.cell)
  (hfr:∀x∈scope.names,x.2=.free->sc.names.lookup x.1=some .cell∨sc.names.lookup x.1=some .free)
  (hnd:fi.Nodup) (hNf:Nf.map some=fi.map (λj=>N[j]?)) (hNk:∀x∈Nf,scope.names.lookup x=some .free) (hfl:∀j∈fi,j<N.length)
  (hg:∀cl s₀ H₀ fp,Ra (kf X scope cl (Nt++Nf) s₀ H₀ fp) tg Nt.length g) (hti:∀cl s₀ H₀ fp,Rb (kf X scope cl (Nt++Nf) s₀ H₀ fp) ifs ti) (hte:∀cl s₀ H₀ fp,PL (kf X scope cl (Nt++Nf) s₀ H₀ fp) elt te)
  {ab:List (Addr×Obj)} {s:Shared} {σ:St} {H Pr:Hp} {Z:Ev} {k4:L->Ev->Prop} {use:Option (Value->Sem Unit)} {Q:Value->Shared->Prop} (I:P7 X ab σ H s) (E:aF X.K Pr H σ Z) (h:kL Nt.length fi src g ti te Z k4)
  (hRR:∀D C s7 H6 acc Z'' m,P7 X ab σ H6 s7->s7.heap.Ns C m->H6 C=none->C≠X.env.locals->X.s₀.heap.objs.size<=C->(∀x c,X.env.cells.lookup x=some c->c≠C)->(∀p∈X.pn++ab,p.1≠C)->aF X.K Pr H6 (some (.ref D)::σ) (.own D acc::Z'')->k4 (.own D acc) Z'' ->
   compPost (model X.prog X.w) X.A X.xe use Q (.ref D) C (.ok .next) s7)
  (hs:∀x,foldedSetIterable iter X.env x=pure x):wpAny (model X.prog X.w) X.A (comprehension (.ListComp elt [⟨tg,iter,ifs,0⟩] scope pos) scope X.env (firstIterPos [⟨tg,iter,ifs,0⟩] pos) (newList []) false (eval iter X.env) use) Q X.xe s:=by
 have hcells:∀x∈scope.names,x.2=.free->∃c,X.env.cells.lookup x.1=some c:=λx hx hk=>I.ok.has x.1 (by
  show X.env.scope.names.lookup x.1=_∨X.env.scope.names.lookup x.1=_
  rw[hsc];exact hfr x hx hk)
 have hsub:=AY (cells:=X.env.cells) scope.names [] (λx c e=>by simp at e);refine wpAny_comprehension_free (use:=use) rfl hs (oP hcells) hkind hnames (Qb (hi ab s σ H Pr Z _ I E h) λv s1 h1=>Qb h1 λitv s2 h2=>?_);obtain⟨it,fp,tn,J,H2,xs,Z2,e,I2,T,st2,f2,E2,G,b0,w0⟩:=h2;subst e;refine WA (T:="list") ?_;generalize hD:s2.heap.objs.size=D;have fD:H2 D=none:=by rw[<- hD];exact I2.fresh
 have I3:P7 X ab σ (PY H2 D (.lst [])) {s2 with heap:=s2.heap.push {cls:=.type "list",dict:=none,data:=.seq ([]:List Value).toArray} }:=by have:=P7.lnew (ys:=[]) (its:=[]) (t':=s2.toks) I2 .nil (Vv _);rw[hD]at this;exact this
 have E3:=E2.cons_own (p:=D) (vs:=[]) (xs:=[]) fD .nil;have sz3:(s2.heap.push {cls:=.type "list",dict:=none,data:=.seq ([]:List Value).toArray}).objs.size=D+1:=by rw[Heap.size_push,hD]
 generalize hs3:({s2 with heap:=s2.heap.push {cls:=.type "list",dict:=none,data:=.seq ([]:List Value).toArray} }:Shared)=s3 at I3;have hs3h:s3.heap=s2.heap.push {cls:=.type "list",dict:=none,data:=.seq ([]:List Value).toArray}:=by rw[<- hs3]
 have fpD:∀b∈fp,b≠D:=λb hb=>by obtain⟨o,e,_⟩:=T.obj 0 _ st2 b hb;rw[<- hD];exact U7 (UR e)
 have old3:∀b o,s2.heap.get? b=some o->s3.heap.get? b=some o:=λb o e=>by rw[hs3h];exact tu _ e
 refine wpAny_newFunctionEnv (around:=some X.env) hcell (by intro y hy;simp at hy) (λh4 hns4 hsb4=>?_) hkind
 have hns4':h4.Ns s3.heap.objs.size (λ_=>none):=by
  have:(λx=>(([]:List (Str×Value)).reverse.lookup x))=λ_=>(none:Option Value):=by funext x;rfl
  rw[this]at hns4;exact hns4
 have old4:∀b o,s3.heap.get? b=some o->h4.get? b=some o:=λb o e=>by rw[hsb4.2 b (U7 (UR e))];exact tu _ e
 have hσl:σ.length=N.length:=by rw[<- hXN];exact I.len
 have hρ2:σ.length=Z2.length:=E2.len;have hjσ:∀j∈fi,j<σ.length:=λj hj=>by rw[hσl];exact hfl j hj
 have hjρ:∀j∈fi,j<Z2.length:=λj hj=>by rw[<- hρ2];exact hjσ j hj
 have hfpl:∀b∈fp,b<s3.heap.objs.size:=λb hb=>by obtain⟨o,e,_⟩:=T.obj 0 _ st2 b hb;exact UR (old3 b o e)
 have hlNf:Nf.length=fi.length:=by have:=WG List.length hNf;simpa using this
 have Bok:(kf X scope (xF X.env.cells scope.names []) (Nt++Nf) s3 (PY H2 D (.lst [])) fp).Ok:=by
  refine⟨I3.ok.mod,hkind,I.ok.glob,I.ok.blt,US _,λx y c e1 e2=>I.ok.inj x y c (hsub x c e1) (hsub y c e2),λx hx=>?_,λx c hf _=>(U4 hf).elim,I.ok.hd,I.ok.frames,.inl rfl,λb hb=>⟨U7 (hfpl b hb),λx c e=>(f2 b hb).2.2.2.2.1 x c (hsub x c e)⟩,I3.bs,UT I.ok.bsz I3.sz,λb o e hb=>?_,λb hb hm=>?_,I3.stack,I3.stkFree,I3.tbs⟩
  .
   have hm:(x,NameKind.free)∈scope.names:=by
    rcases hx with hx|hx
    . exact jz (env:=X.env) hcell (.inl rfl) hx
    . exact jz (env:=X.env) hcell (.inr rfl) hx
   exact vN scope.names [] x (.inr ⟨hm,hcells _ hm rfl⟩)
  .
   rcases(f2 b hb).2.2.2.1 with z|z
   . exact I.ok.noex b o e z
   . exact absurd (so (UR (I.ok.bs b o e).1) z) (V5 _)
  .
   rcases UV.mp (I3.stkSub b hm)with z|z
   . exact(f2 b hb).2.1 z
   . exact(f2 b hb).2.2.1 z
 have I4:P7 (kf X scope (xF X.env.cells scope.names []) (Nt++Nf) s3 (PY H2 D (.lst [])) fp) [] (List.replicate Nt.length none++cw fi σ) (PY H2 D (.lst [])) {s3 with heap:=h4,toks:=s3.toks+([]:List (Str×Value)).length}:=by
  refine⟨Bok,rfl,I3.bare,Un.kept old4,⟨_,hns4',λi x v e1 e2 e3=>?_⟩,λx c e=>?_,I3.fresh,λx c e=>(I3.freeC x c (hsub x c e)).imp id λz=>⟨rfl,z.2⟩,λp hp=>absurd (show p∈([]:List (Addr×Obj))from hp) x_,I3.hok.kept old4,?_⟩
  .
   have e1:(Nt++Nf)[i]?=some x:=e1
   have hi':Nt.length<=i:=by
    by_cases q:i<Nt.length
    . rw[U9 (by simpa using q),List.getElem?_replicate]at e2;split at e2<;>cases e2
    . omega
   rw[Vb hi']at e1;rw[Vb (by simpa using hi')]at e2;simp only[List.length_replicate]at e2;generalize i-Nt.length=k at e1 e2;have hk:k<fi.length:=by have:=(k5.mp e1).1;omega
   have e4:(Nf.map some)[k]?=(fi.map λj=>N[j]?)[k]?:=by rw[hNf]
   rw[UU,UU,e1,fI hk]at e4;have e5:N[fi[k]]?=some x:=by simpa using e4.symm
   have e6:σ[fi[k]]?=some (some v):=by unfold cw at e2;rw[UU,fI hk]at e2;have hjl:=hjσ fi[k] (UO hk);rw[fI hjl];simpa[fI hjl]using e2
   have hxm:x∈Nf:=We e1;have hfree:=hNk x hxm;have hmem:(x,NameKind.free)∈scope.names:=VY hfree;have hkx:=hfr _ hmem rfl;obtain⟨m,_,hl⟩:=I3.loc;obtain⟨u,ru,lk⟩:=hl fi[k] x v (by rw[hXN];exact e5) e6 (by rw[hsc];exact .inr hkx);refine⟨u,ru,.inr ⟨g5 (env:=X.env) hfree,?_⟩⟩;rcases lk with⟨z,_⟩|⟨_,c,hc1,hc2⟩
   .
    have z:X.env.scope.names.lookup x=some .local:=z;rw[hsc]at z;rcases hkx with q|q
    . rw[z]at q;cases q
    . rw[z]at q;cases q
   .
    obtain⟨d,hd⟩:=vN (cells:=X.env.cells) scope.names [] x (.inr ⟨hmem,c,hc1⟩);have:d=c:=by have:=hsub x d hd;rw[hc1]at this;exact(U6 this).symm
    subst this;obtain⟨o,ho,hdd⟩:=hc2;exact⟨d,hd,o,old4 _ o ho,hdd⟩
  . obtain⟨v,o,ho,hd⟩:=I3.cell x c (hsub x c e);exact⟨v,o,old4 c o ho,hd⟩
  . show(List.replicate Nt.length none++cw fi σ).length=(Nt++Nf).length;simp[cw,hlNf]
 have E4:aF X.K Pr (PY H2 D (.lst [])) (some (.ref D)::(σ++(List.replicate Nt.length none++cw fi σ))) (.own D []::(bI fi Z2++(List.replicate Nt.length .un++di fi Z2))):=by
  have a1:aF X.K Pr (PY H2 D (.lst [])) (σ++[some (.ref D)]) (Z2++[.own D []]):=E3.rearr (by simp[hρ2]) [] (by
   rw[VC,VD hρ2]
   exact(Vy (l₁:=[(some (V.ref D),L.own D [])]) (l₂:=σ.zip Z2)))
  have a2:=a1.takes fi hnd λj hj=>by have:=hjρ j hj;simp;omega
  rw[xG hjσ,B7 hjρ,xH hjρ]at a2;have a3:=a2.uns Nt.length;have hcl:(cw fi σ).length=(di fi Z2).length:=by simp[cw,di]
  have hul:σ.length=(bI fi Z2).length:=by rw[gZ];exact hρ2
  refine a3.rearr (by simp[hul,hcl]) [] ?_;have l1:(cw fi σ++(σ++[some (V.ref D)])++List.replicate Nt.length none).zip (di fi Z2++(bI fi Z2++[L.own D []])++List.replicate Nt.length L.un)=((cw fi σ).zip (di fi Z2)++(σ.zip (bI fi Z2)++[(some (V.ref D),L.own D [])]))++(List.replicate Nt.length none).zip (List.replicate Nt.length L.un):=by rw[VD (by simp only[Vk,hcl,hul];rfl),VD hcl,VD hul];rfl
  have l2:(some (V.ref D)::(σ++(List.replicate Nt.length none++cw fi σ))).zip (L.own D []::(bI fi Z2++(List.replicate Nt.length L.un++di fi Z2)))=(some (V.ref D),L.own D [])::(σ.zip (bI fi Z2)++((List.replicate Nt.length none).zip (List.replicate Nt.length L.un)++(cw fi σ).zip (di fi Z2))):=by rw[Wr,VD hul,VD x_]
  rw[VC,l1,l2];generalize (cw fi σ).zip (di fi Z2)=z1;generalize σ.zip (bI fi Z2)=z2;generalize (List.replicate Nt.length none).zip (List.replicate Nt.length L.un)=z3;show(z1++(z2++[(some (V.ref D),L.own D [])])++z3).Perm ((some (V.ref D),L.own D [])::(z2++(z3++z1)));have p1:(z1++(z2++[(some (V.ref D),L.own D [])])++z3).Perm ((z2++[(some (V.ref D),L.own D [])])++z3++z1):=by rw[Vs];exact Vy
  refine p1.trans ?_;rw[Vs,Vs];exact List.perm_middle
 clear E3
 let B:Cx:=kf X scope (xF X.env.cells scope.names []) (Nt++Nf) s3 (PY H2 D (.lst [])) fp
 have hul:σ.length=(bI fi Z2).length:=by rw[gZ];exact hρ2
 have stat:∀{H':Hp},(∀b∈fp,H' b=none)->∀b∈fp,CU B [] H' b:=λhn b hb=>by
  refine⟨hn b hb,U7 (hfpl b hb),λhm=>?_,.inl hb,λx c e=>(f2 b hb).2.2.2.2.1 x c (hsub x c e),λp hp=>absurd (show p∈([]:List (Addr×Obj))from hp) x_⟩;rcases UV.mp (I3.stkSub b hm)with z|z
  . exact(f2 b hb).2.1 z
  . exact(f2 b hb).2.2.1 z
 have loop:∀s5:Shared,s5={s3 with heap:=h4,toks:=s3.toks+([]:List (Str×Value)).length}->codeAny (model X.prog X.w) X.A (.compLoop (.ListComp elt [⟨tg,iter,ifs,0⟩] scope pos) 0 (.ref it) (.ref D) B.env)
   (compPost (model X.prog X.w) X.A X.xe use Q (.ref D) s3.heap.objs.size) s5:=by
  rintro s5 rfl
  refine Dt (λn s'=>∃i σ' H' Z' acc,n+i=xs.length/\P7 B [] σ' H' s'/\tn i s'.heap/\(∀b∈fp,H' b=none)/\σ'.drop Nt.length=cw fi σ/\aF X.K Pr H' (some (.ref D)::(σ++σ')) (.own D acc::(bI fi Z2++Z'))/\acc.length<=i /\
   eI g ti te (xs.drop i) Z' acc λys ρb=>∀a,k4 (.own a ys) (i6 fi (ρb.drop Nt.length) (bI fi Z2))) ?_ xs.length
   ⟨0,_,_,_,[],xL,I4,T.keep 0 _ _ st2 λb hb o e=>old4 b o (old3 b o e),λb hb=>by rw[aG (fpD b hb)];exact(f2 b hb).1,x_,E4,US _,by simpa using w0⟩
  rintro n s6 ⟨i,σ6,H6,Z6,acc,hn,I6,st6,fr6,dr6,E6,hal,w6⟩
  have pr:u5 H2 H6:=λb o p e=>by
   have ne:b≠D:=λz=>by rw[z,fD]at e;cases e
   have e':B.H₀ b=some o:=by show PY H2 D (.lst []) b=some o;rw[aG ne];exact e
   cases o with
   |tup ys=>exact I6.base.tups b ys e'
   |frz ob u=>exact I6.base.frzs b ob u e'
   |tbl t=>exact I6.base.tbls b t e'
   |_=>exact p.elim
  obtain⟨go,stop⟩:=G H6 pr;have hτ:(some (V.ref D)::σ).length=(L.own D acc::bI fi Z2).length:=by simp[hul]
  by_cases hlt:i<xs.length
  .
   obtain⟨hgo,hy⟩:=go i xs[i] (fI hlt);rw[Vi hlt]at w6;refine Qb (T.item B rfl rfl rfl hc i [] s6 σ6 H6 (λ_ _=>False) I6 (stat fr6) st6 hgo) λr s7 ⟨u,hr,h7⟩=>?_;subst hr;refine Qb h7 λ_ s8 ⟨x,H8,I8,r8,y8,st8,fr8⟩=>?_;obtain⟨gr,rx⟩:=hy x H8 y8;have I8':=I8.pinned (stat fr8) (T.obj _ _ st8);have E8:=E6.grown gr;have E8a:aF X.K (bE H8 Z6) H8 σ6 Z6:=(aF.drop (τ:=some (V.ref D)::σ) (lam:=L.own D acc::bI fi Z2) E8 hτ).wide;obtain⟨gg,hgg,hgs⟩:=hg (xF X.env.cells scope.names []) s3 (PY H2 D (.lst [])) fp;refine Qb (hgg _ s8 σ6 H8 x u _ I8' r8 (hgs x σ6 H8 _ Z6 xs[i] _ I8.len E8a rx w6)) λ_ s9 ⟨σ9,H9,I9,e9,dr9,Z9,E9,q9⟩=>?_;subst e9;have F9:aF X.K Pr H9 (some (V.ref D)::(σ++σ9)) (L.own D acc::(bI fi Z2++Z9)):=aF.step (τ:=some (V.ref D)::σ) (lam:=L.own D acc::bI fi Z2) (w:=[]) (μ:=[]) E8 hτ E9 rfl;have F9a:aF X.K (bE H9 Z9) H9 σ9 Z9:=(aF.drop (τ:=some (V.ref D)::σ) (lam:=L.own D acc::bI fi Z2) F9 hτ).wide;refine Qb (hti _ _ _ _ _ s9 σ9 H9 _ Z9 _ I9 F9a q9) λok sA ⟨HA,ρA,IA,EA,qA⟩=>?_;have FA:aF X.K Pr HA (some (V.ref D)::(σ++σ9)) (L.own D acc::(bI fi Z2++ρA)):=aF.step (τ:=some (V.ref D)::σ) (lam:=L.own D acc::bI fi Z2) (w:=[]) (μ:=[]) F9 hτ EA rfl
   have again:∀{sZ:Shared}{HZ:Hp}{ρZ:Ev}{acc':List L2.D},P7 B ([]++xl fp s8.heap) σ9 HZ sZ->aF X.K Pr HZ (some (.ref D)::(σ++σ9)) (.own D acc'::(bI fi Z2++ρZ))->acc'.length<=i+1 ->
     (eI g ti te (xs.drop (i+1)) ρZ acc' λys ρb=>∀a,k4 (.own a ys) (i6 fi (ρb.drop Nt.length) (bI fi Z2)))->∃m,m<n/\∃i σ' H' Z' acc,m+i=xs.length/\P7 B [] σ' H' sZ/\tn i sZ.heap/\(∀b∈fp,H' b=none)/\σ'.drop Nt.length=cw fi σ /\
     aF X.K Pr H' (some (.ref D)::(σ++σ')) (.own D acc::(bI fi Z2++Z'))/\acc.length<=i/\eI g ti te (xs.drop i) Z' acc λys ρb=>∀a,k4 (.own a ys) (i6 fi (ρb.drop Nt.length) (bI fi Z2)):=λ{sZ HZ ρZ acc'} IZ EZ hz qZ=>by
    refine⟨n-1,xL,i+1,σ9,HZ,ρZ,acc',xL,IZ.unpinned,T.keep _ _ _ st8 λb hb o e=>(IZ.pin (b,o) (U2 _ (U2 _ (l4 hb e)))).1,λb hb=>?_,dr9.trans dr6,EZ,hz,qZ⟩;obtain⟨o,e,d⟩:=T.obj _ _ st8 b hb;exact(IZ.pin (b,o) (U2 _ (U2 _ (l4 hb e)))).2.1
   cases ok with
   | false =>
    rw[if_neg U4]at qA ⊢;exact again IA FA xL qA
   | true =>
    rw[if_pos rfl]at qA ⊢;have FAa:aF X.K (bE HA ρA) HA σ9 ρA:=(aF.drop (τ:=some (V.ref D)::σ) (lam:=L.own D acc::bI fi Z2) FA hτ).wide;refine Qb (hte _ _ _ _ _ sA σ9 HA _ ρA _ IA FAa qA) λux sB qB=>?_;obtain⟨vy,HB,y,ρB,IB,rB,EB,qB⟩:=EL.frz (X:=B) (k4:=λy Z3=>eI g ti te (xs.drop (i+1)) Z3 (acc++[y]) λys ρb=>∀a,k4 (.own a ys) (i6 fi (ρb.drop Nt.length) (bI fi Z2))) qB;have FB:aF X.K Pr HB (some vy::(some (V.ref D)::(σ++σ9))) (.d y::(L.own D acc::(bI fi Z2++ρB))):=aF.step (τ:=some (V.ref D)::σ) (lam:=L.own D acc::bI fi Z2) (w:=[some vy]) (μ:=[.d y]) FA hτ EB rfl;obtain⟨_,e1,p1⟩:=FB.head_d;cases e1;have Rc:=FB.tail.sl
    cases Rc with
    | cons q0 _ =>
     obtain⟨_,vs,hDB,rvs⟩:=q0;refine Qb (xw (X:=B) _ sB σ9 HB (.ref D) [vy] (.ref D) [ux] (λz H'=>H'=PY HB D (.lst (vs++[vy]))) IB rfl (.cons rB .nil) ⟨D,vs,vy,rfl,rfl,hDB,by rw[rvs.length];omega,rfl⟩) λ_ sC ⟨z,HC,IC,_,eC⟩=>?_;subst eC;exact again IC (FB.tail.write (rvs.append (.cons p1 .nil))) (by simp;omega) qB
  .
   have e:i=xs.length:=by omega
   subst e;refine Qb (T.done B rfl rfl rfl hc xs.length [] s6 σ6 H6 (λ_ _=>False) I6 (stat fr6) st6 stop) λr s7 ⟨hr,I7⟩=>?_;subst hr;rw[Wp]at w6;obtain⟨m,hm,_⟩:=id I7.loc;have I8:P7 X ab σ H6 s7:=I3.call' (ch:=fp) I7.os I7.base I7.hok I7.bare λb hb=>⟨(f2 b hb).2.2.2.1,(f2 b hb).2.1,(f2 b hb).2.2.2.2.1,(f2 b hb).2.2.2.2.2⟩;have f4:=I3.fpOk (H':=H6) (b:=s3.heap.objs.size) (US _) I7.free
   .
    have hlen6:σ6.length=Z6.length:=(aF.drop (τ:=some (V.ref D)::σ) (lam:=L.own D acc::bI fi Z2) E6 hτ).len
    have a1:aF X.K Pr H6 (cw fi σ++(σ++[some (V.ref D)])) (Z6.drop Nt.length++(bI fi Z2++[L.own D acc])):=by
     have hcd:(cw fi σ).length=(Z6.drop Nt.length).length:=by rw[<- dr6,VV,VV,hlen6]
     refine E6.rearr (by simp[hcd,hul,hlen6]) ((σ6.take Nt.length).zip (Z6.take Nt.length)) ?_;have l0:σ6.zip Z6=(σ6.take Nt.length).zip (Z6.take Nt.length)++(cw fi σ).zip (Z6.drop Nt.length):=by rw[<- dr6,<- VD (by simp[hlen6]),List.take_append_drop,List.take_append_drop]
     have l1:(some (V.ref D)::(σ++σ6)).zip (L.own D acc::(bI fi Z2++Z6))=(some (V.ref D),L.own D acc)::(σ.zip (bI fi Z2)++σ6.zip Z6):=by rw[Wr,VD hul]
     have l2:(cw fi σ++(σ++[some (V.ref D)])).zip (Z6.drop Nt.length++(bI fi Z2++[L.own D acc]))=(cw fi σ).zip (Z6.drop Nt.length)++(σ.zip (bI fi Z2)++[(some (V.ref D),L.own D acc)]):=by rw[VD hcd,VD hul];rfl
     rw[l1,l2,l0];generalize (cw fi σ).zip (Z6.drop Nt.length)=z1;generalize σ.zip (bI fi Z2)=z2;generalize (σ6.take Nt.length).zip (Z6.take Nt.length)=z3;have p1:((some (V.ref D),L.own D acc)::(z2++(z3++z1))).Perm ((z2++[(some (V.ref D),L.own D acc)])++(z3++z1)):=by rw[Vs];exact List.perm_middle.symm
     refine p1.trans ?_;have p2:((z2++[(some (V.ref D),L.own D acc)])++(z3++z1)).Perm ((z3++z1)++(z2++[(some (V.ref D),L.own D acc)])):=Vy;refine p2.trans ?_;rw[Vs];exact Vy
    have a2:=aF.backs (σ:=σ++[some (V.ref D)]) (cs:=Z6.drop Nt.length) (Z:=bI fi Z2++[L.own D acc]) fi hnd (by rw[VV,<- hlen6,<- VV,dr6];simp[cw]) (λj hj=>by
     rw[U9 (by rw[gZ];exact hjρ j hj)];exact AX fi Z2 j hj (hjρ j hj)) (λj hj=>by have:=hjσ j hj;simp;omega) (by rw[xG hjσ];exact a1)
    rw[u9 λj hj=>by rw[gZ];exact hjρ j hj]at a2;have hpl:σ.length=(i6 fi (Z6.drop Nt.length) (bI fi Z2)).length:=by have:=a2.len;simpa using this
    refine hRR D s3.heap.objs.size s7 H6 acc (i6 fi (Z6.drop Nt.length) (bI fi Z2)) m I8 hm f4.1 f4.2.1 I3.sz f4.2.2.2.2.1 f4.2.2.2.2.2 (a2.rearr (by simp[hpl]) [] ?_) (w6 D);rw[VC,VD hpl,Wr];exact Vy (l₂:=[(some (V.ref D),L.own D acc)])
 exact codeAny_compStart_list (loop _ rfl) (T.self _ 0 _ _ _ (T.keep 0 _ _ st2 λb hb o e=>old4 b o (old3 b o e)) (loop _ rfl))
theorem jB{elt tg iter:Expr}{ifs:List Expr}{scope sc:Scope}{pos:Pos}{N Nt Nf:List Str}{fi:List Nat}{src:W (List D)}{g:Tg}{ti:W Bool}{te:W L}
  (hsc:X.env.scope=sc) (hXN:X.N=N) (hc:X.calm=true) (hi:Q4 X tg iter src)
  (hkind:scope.kind=.function) (hnames:∀x∈scope.names,x.2=.local->scope.names.lookup x.1=some .local) (hcell:∀y∈scope.names,y.2≠.cell)
  (hfr:∀x∈scope.names,x.2=.free->sc.names.lookup x.1=some .cell∨sc.names.lookup x.1=some .free)
  (hnd:fi.Nodup) (hNf:Nf.map some=fi.map (λj=>N[j]?)) (hNk:∀x∈Nf,scope.names.lookup x=some .free) (hfl:∀j∈fi,j<N.length)
  (hg:∀cl s₀ H₀ fp,Ra (kf X scope cl (Nt++Nf) s₀ H₀ fp) tg Nt.length g) (hti:∀cl s₀ H₀ fp,Rb (kf X scope cl (Nt++Nf) s₀ H₀ fp) ifs ti) (hte:∀cl s₀ H₀ fp,PL (kf X scope cl (Nt++Nf) s₀ H₀ fp) elt te)
  (hs:∀x,foldedSetIterable iter X.env x=pure x:=by intro _;rfl):PL X (.ListComp elt [⟨tg,iter,ifs,0⟩] scope pos) (kL Nt.length fi src g ti te):=by
 intro ab s σ H Pr Z k4 I E h;rw[eval_ListComp];refine xI (use:=none) hsc hXN hc hi hkind hnames hcell hfr hnd hNf hNk hfl hg hti hte I E h (λD C s7 H6 acc Z'' m I7 hm h1 h2 h3 h4 h5 E7 p=>?_) hs;exact⟨m,hm,λh' hsb=>⟨.ref D,H6,_,Z'',I7.turned (t':=s7.toks) (λb o hb e=>(hsb.2 b hb).trans e) h1 (VB (VB h2)) (.inr h3) h4 h5,rfl,E7,p⟩⟩
theorem vQ{elt tg iter:Expr}{ifs:List Expr}{scope sc:Scope}{pos spos py:Pos}{y:Str}{j:Nat}{N Nt Nf:List Str}{fi:List Nat}{src:W (List D)}{g:Tg}{ti:W Bool}{te:W L}
  (hN:X.N.Nodup) (hj:X.N[j]?=some y) (hy:P6 X.env.scope y)
  (hsc:X.env.scope=sc) (hXN:X.N=N) (hc:X.calm=true) (hi:Q4 X tg iter src)
  (hkind:scope.kind=.function) (hnames:∀x∈scope.names,x.2=.local->scope.names.lookup x.1=some .local) (hcell:∀y∈scope.names,y.2≠.cell)
  (hfr:∀x∈scope.names,x.2=.free->sc.names.lookup x.1=some .cell∨sc.names.lookup x.1=some .free)
  (hnd:fi.Nodup) (hNf:Nf.map some=fi.map (λj=>N[j]?)) (hNk:∀x∈Nf,scope.names.lookup x=some .free) (hfl:∀j∈fi,j<N.length)
  (hg:∀cl s₀ H₀ fp,Ra (kf X scope cl (Nt++Nf) s₀ H₀ fp) tg Nt.length g) (hti:∀cl s₀ H₀ fp,Rb (kf X scope cl (Nt++Nf) s₀ H₀ fp) ifs ti) (hte:∀cl s₀ H₀ fp,PL (kf X scope cl (Nt++Nf) s₀ H₀ fp) elt te)
  (hsw:swapsWith (.ListComp elt [⟨tg,iter,ifs,0⟩] scope pos) (some (.Name y py)) spos.line X.env=pure true:=by rfl) (hf:X.fn y=true∨X.env.scope.names.lookup y=some .local:=by first|exact .inl rfl|exact .inr rfl|assumption)
  (hs:∀x,foldedSetIterable iter X.env x=pure x:=by intro _;rfl):PM X (.Assign [.Name y py] (.ListComp elt [⟨tg,iter,ifs,0⟩] scope pos) spos) (bz j (kL Nt.length fi src g ti te)):=by
 intro ab s σ H Pr Z k4 I E h;rw[exec_Assign_Name_used _ _ _ _ hsw];refine UL (wpAny_standAt (UL ?_))
 show wpAny _ X.A (do let _ <- comprehension (.ListComp elt [⟨tg,iter,ifs,0⟩] scope pos) scope X.env (firstIterPos [⟨tg,iter,ifs,0⟩] pos) (newList []) false (eval iter X.env) (some (assign (.Name y py) X.env))) _ _ s
 refine UL (Qb (xI (use:=some (assign (.Name y py) X.env)) (Q:=λ_ s'=>SM X ab Pr k4 .next s') (k4:=λr Z1=>k4 .nx (Z1.set j r)) hsc hXN hc hi hkind hnames hcell hfr hnd hNf hNk hfl hg hti hte I E h (λD C s7 H6 acc Z'' m I7 hm h1 h2 h3 h4 h5 E7 p=>?_) hs) λ_ s' hq=>U0 (U0 hq))
 show wpAny _ X.A (assign (.Name y py) X.env (.ref D)) _ _ _;refine wpAny_assign_Name (xk (v:=.ref D) I7 hN hj hy rfl (λs8 I8 ⟨a,sb,ha⟩=>?_) hf)
 have hCa:C≠a:=by
  rcases ha with z|z
  . rw[z];exact h2
  . exact λq=>h4 y a z q.symm
 refine⟨m,hm.sameBut sb hCa,λh' hsb=>⟨_,H6,_,I8.turned (t':=s8.toks) (λb o hb e=>(hsb.2 b hb).trans e) h1 h2 (.inr h3) h4 h5,E7.store (by rw[I7.len];exact(k5.mp hj).1),p⟩⟩
end
section
variable{X:Cx}{e a b:Expr}{pos:Pos}{ta tb te:W L}{x y:Str}
def Nz(i j:Nat)(ta tb:W L):W Fl:=λZ k4=>ta Z λr Z1=>QS r λv=>tb Z1 λr2 Z2=>QS r2 λw=>k4 .nx ((Z2.set i (.d v)).set j (.d w))
theorem HU{i j:Nat}{px py pt:Pos} {kt k2 pt2} (hc:X.calm=true) (hN:X.N.Nodup) (hi:X.N[i]?=some x) (hj:X.N[j]?=some y) (hij:i≠j)
  (hx:X.env.scope.names.lookup x=some .local) (hy:X.env.scope.names.lookup y=some .local) (ha:PL X a ta) (hb:PL X b tb)
  (hw:swappedStores [.Tuple [.Name x px,.Name y py] kt pt] (.Tuple [a,b] k2 pt2) X.env=pure (some [x,y]))
  (hs:swapsWithSole [.Tuple [.Name x px,.Name y py] kt pt] (.Tuple [a,b] k2 pt2) pos.line X.env=pure false:=by rfl)
  (h1:starEach [a,b] X.env=(false,eval a X.env)::starEach [b] X.env:=by rfl) (h2:starEach [b] X.env=[(false,eval b X.env)]:=by rfl) :
  PM X (.Assign [.Tuple [.Name x px,.Name y py] kt pt] (.Tuple [a,b] k2 pt2) pos) (Nz i j ta tb):=by
 refine PM.of (Lj hc hN hi hj hij hx hy (gW (az ha).pe (gW (az hb).pe sq h2) h1) hw hs) λσ H Pr Z k4 b0 E h=>?_
 refine⟨Pr,Z,λr Z1=>match r with
  |.d v=>tb Z1 λr2 Z2=>QS r2 λw=>k4 .nx ((Z2.set i (.d v)).set j (.d w))
  |_=>False,E,h,λv H1 r Z1 E1 pp=>?_⟩
 cases r with
 | d dv =>
  refine⟨bE H1 Z1,Z1,λr Z2=>match r with
   |.d w=>k4 .nx ((Z2.set i (.d dv)).set j (.d w))
   |_=>False,E1.tail.wide,pp,λw H2 r2 Z2 E2 pp=>?_⟩
  cases r2 with
  | d dw =>
   have E3:aF X.K Pr H2 (some w::some v::σ) (.d dw::.d dv::Z2):=aF.step (τ:=[some v]) (lam:=[.d dv]) (w:=[some w]) (μ:=[.d dw]) E1 rfl E2 rfl;have il:i<σ.length:=by rw[b0];exact(k5.mp hi).1
   have jl:j<σ.length:=by rw[b0];exact(k5.mp hj).1
   obtain⟨_,e1,r1⟩:=E3.head_d;cases e1;have E4:aF X.K Pr H2 (σ.set i (some v)) (Z2.set i (.d dv)):=E3.tail.store il;exact⟨v,w,rfl,_,(E4.cons_d r1).store (by simpa using jl),pp⟩
  |_=>exact pp.elim
 |_=>exact pp.elim
def xJ(is:List Nat)(te:W L):W Fl:=λZ k4=>te Z λr Z1=>QS r λv=>eY is v Z1 λZ2=>k4 .nx Z2
theorem pV{tg:Expr}{is:List Nat}(hg:Q1 X tg (eY is))(he:PL X e te)(hs:swapsWithSole [tg] e pos.line X.env=pure false:=by rfl)(hw:swappedStores [tg] e X.env=pure none:=by rfl)
  (h1:(assignEach [tg] X.env).map (·.2)=[assign tg X.env]:=by rfl):PM X (.Assign [tg] e pos) (xJ is te):=by
 intro ab s σ H Pr Z k4 I E h;obtain⟨gg,hg,hgg⟩:=hg;refine wpAny_Assign_stores (Qb (he ab s σ H Pr Z _ I E h) λv s1 q=>?_) hs hw;obtain⟨w,H1,d,Z1,I1,r1,E1,q1⟩:=EL.frz (k4:=λd Z1=>eY is d Z1 λZ2=>k4 .nx Z2) q;rw[h1];obtain⟨_,e1,p1⟩:=E1.head_d;cases e1;exact Qb (hg ab s1 σ H1 w v _ I1 r1 (hgg w σ H1 Pr Z1 d _ I1.len E1.tail p1 q1)) λ_ s2 ⟨σ',H',I',e',_,Z',E',q⟩=>by subst e';exact⟨σ',_,Z',I',E',q⟩
noncomputable def pW:D->Bool
 |.non=>true | .bl _=>true | .int _=>true | .str _=>true
 |_=>false
noncomputable def Re:D->D->Bool
 |.non,.non=>true
 |.bl a,.bl b=>a == b
 |.bl a,.int b=>(if a then 1 else 0) == b
 |.int a,.bl b=>a == (if b then 1 else 0)
 |.int a,.int b=>a == b
 |.str a,.str b=>a == b
 |_,_=>false
theorem oQ{K:PySem.W.Frag}{H:Hp}{v:V}{d:D}(r:QM K H v d)(h:pW d=true):uA v=true:=by cases r<;>first|rfl|(exact absurd h (by simp[pW]))
theorem LZ{K:PySem.W.Frag}{H:Hp}{v w:V}{d f:D}(r:QM K H v d)(q:QM K H w f)(h:pW d=true)(h':pW f=true):QC v w=Re d f:=by cases r<;>cases q<;>first|rfl|(exact absurd h (by simp[pW]))|(exact absurd h' (by simp[pW]))
noncomputable def QJ(x:D)(ys:List D):Bool:=ys.any λy=>Re y x
theorem xK{K:PySem.W.Frag}{H:Hp}{v:V}{x:D}(r:QM K H v x)(h:pW x=true):∀{vs:List V}{ys:List D},bO K H vs ys->ys.all pW=true->QE v vs=QJ x ys/\vs.all uA=true
 |_,_,.nil,_=>⟨rfl,rfl⟩
 | _,_,.cons r0 t,ha=>by rw[Wm,UQ]at ha;obtain⟨i1,i2⟩:=xK r h t ha.2;unfold QE QJ at i1 ⊢;rw[Wc,Wc,Wm,i1,LZ r0 r ha.1 h,oQ r0 ha.1,i2];exact⟨rfl,rfl⟩
def pX(neg:Bool):QT:=λx y k=>pW x=true/\kI y λys=>ys.all pW=true/\k (.d (.bl (if neg then !QJ x ys else QJ x ys)))
theorem F4:QU X (compareOp .In) (pX false):=QU.of C9 λσ H Pr Z x y dx dy k4 E px py ⟨hx,h⟩=>by
 cases py with
 | lst hz rs =>
  obtain⟨ha,h⟩:=h;obtain⟨i1,i2⟩:=xK px hx rs ha;exact⟨_,_,rfl,.inl hz.l,oQ px hx,i2,_,E.cons_d (.bl _),by rw[i1];exact h⟩
 | tup hz rs =>
  obtain⟨ha,h⟩:=h;obtain⟨i1,i2⟩:=xK px hx rs ha;exact⟨_,_,rfl,.inr hz,oQ px hx,i2,_,E.cons_d (.bl _),by rw[i1];exact h⟩
 |_=>exact h.elim
theorem rP:QU X (compareOp .NotIn) (pX true):=QU.of xt λσ H Pr Z x y dx dy k4 E px py ⟨hx,h⟩=>by
 cases py with
 | lst hz rs =>
  obtain⟨ha,h⟩:=h;obtain⟨i1,i2⟩:=xK px hx rs ha;exact⟨_,_,rfl,.inl hz.l,oQ px hx,i2,_,E.cons_d (.bl _),by rw[i1];exact h⟩
 | tup hz rs =>
  obtain⟨ha,h⟩:=h;obtain⟨i1,i2⟩:=xK px hx rs ha;exact⟨_,_,rfl,.inr hz,oQ px hx,i2,_,E.cons_d (.bl _),by rw[i1];exact h⟩
 |_=>exact h.elim
def Rf(X:Cx)(lo:Option Expr)(t:Option (W L)):Prop:=match lo,t with
 |none,none=>True
 |some e,some t=>PL X e t
 |_,_=>False
theorem xM{K:PySem.W.Frag}{H:Hp}{vs:List V}{xs:List D}(r:bO K H vs xs)(l u:Option Int):bO K H (HL vs l u) (CK xs l u):=by unfold HL CK;rw[r.length];exact(r.drop _).take _
noncomputable def Rg(K:PySem.W.Frag)(t:Option (W L)):TO:=λσ H Q=>∃Pr Z k4,aF K Pr H σ Z/\B6 t Z k4/\∀i H' Z',aF K Pr H' σ Z'->k4 i Z'->Q i H'
theorem Ma{lo:Option Expr}{t:Option (W L)}(h:Rf X lo t):PO X lo (Rg X.K t):=by
 cases lo with
 | none =>
  cases t with
  | none =>
   intro ab s σ H Q I ⟨Pr,Z,k4,E,hw,q⟩;exact IV ab s σ H Q I (q none H Z E hw)
  |some t=>exact h.elim
 | some e =>
  cases t with
  |none=>exact h.elim
  | some t =>
   intro ab s σ H Q I ⟨Pr,Z,k4,E,hw,q⟩;refine IW (PL.pe (show PL X e t from h)) ab s σ H Q I ⟨Pr,Z,_,E,hw,λv H' r Z' E' pp=>?_⟩;obtain⟨i,rfl,pp⟩:=eG pp;obtain⟨_,e1,p1⟩:=E'.head_d;cases e1;obtain rfl:=QM.inv_int p1;exact⟨i,rfl,q (some i) H' Z' E'.tail pp⟩
end
def Mb{α:Type}(o:Option L)(t u:W α)(Z:Ev)(k4:α->Ev->Prop):Prop:=match o with
 |some (.own _ _)=>t Z k4
 |_=>u Z k4
noncomputable def eZ{α:Type}(i:Nat)(t u:W α):W α:=λZ k4=>Mb Z[i]? t u Z k4
theorem F5{α:Type}(a:Addr)(xs:List D)(t u:W α)(Z:Ev)(k4:α->Ev->Prop):Mb (some (.own a xs)) t u Z k4=t Z k4:=rfl
theorem Mc{α:Type}(x:D)(t u:W α)(Z:Ev)(k4:α->Ev->Prop):Mb (some (.d x)) t u Z k4=u Z k4:=rfl
theorem Jv{α:Type}(a:Option Addr)(ls:List L)(t u:W α)(Z:Ev)(k4:α->Ev->Prop):Mb (some (.bx a ls)) t u Z k4=u Z k4:=rfl
theorem g6{X:Cx}{e:Expr}{i:Nat}{t u:W L}(h:PL X e t)(h':PL X e u):PL X e (eZ i t u):=λab s σ H Pr Z k4 I E q=>by
 unfold eZ Mb at q;split at q
 . exact h ab s σ H Pr Z k4 I E q
 . exact h' ab s σ H Pr Z k4 I E q
theorem Jw{K:PySem.W.Frag}{c:Str}{C:Addr}{T:String}(h:u4 K c C=true)(hm:PySem.W.kitMeta T=true):PySem.W.kitOne K (.ref C) (.type T)=some ((["ValueError","Exception","BaseException","object"]:List String).contains T):=by obtain⟨L,cd,S⟩:=xA h;unfold PySem.W.kitOne PySem.W.kitCls;rw[if_neg (show ¬((Value.ref C == Value.type T)=true)from λz=>by cases z)];dsimp only;rw[if_pos hm];show PySem.W.mroIn K C (.type T)=_;rw[S.mroIn,sD]
theorem xN{T:String}(h0:∀K d,(∀c ns xs,d≠.exc c ns xs)->PySem.W.kitOne K (Q8 d) (.type T)=some (oG T d))(hm:PySem.W.kitMeta T=true):∀K d t,Q9 K d t->PySem.W.kitOne K t (.type T)=some (oG T d):=by
 intro K d t h
 cases d with
 | exc c ns xs =>
  obtain⟨C,e,h⟩:=h;rw[e];exact Jw h hm
 |_=>cases h;exact h0 K _ (λ_ _ _ z=>nomatch z)
theorem zw:∀ K d t,Q9 K d t->PySem.W.kitOne K t (.type "int")=some (oG "int" d):=xN (λK d hd=>by cases d <;> first | rfl | exact absurd rfl (hd _ _ _)) y_
theorem vR:∀ K d t,Q9 K d t->PySem.W.kitOne K t (.type "bool")=some (oG "bool" d):=xN (λK d hd=>by cases d <;> first | rfl | exact absurd rfl (hd _ _ _)) y_
theorem zx:∀ K d t,Q9 K d t->PySem.W.kitOne K t (.type "str")=some (oG "str" d):=xN (λK d hd=>by cases d <;> first | rfl | exact absurd rfl (hd _ _ _)) y_
theorem oR:∀ K d t,Q9 K d t->PySem.W.kitOne K t (.type "list")=some (oG "list" d):=xN (λK d hd=>by cases d <;> first | rfl | exact absurd rfl (hd _ _ _)) y_
theorem i7:∀ K d t,Q9 K d t->PySem.W.kitOne K t (.type "tuple")=some (oG "tuple" d):=xN (λK d hd=>by cases d <;> first | rfl | exact absurd rfl (hd _ _ _)) y_
def zy(K:PySem.W.Frag)(mg:Str->Option Value)(x:Str)(d:D):Prop:=∃v u,mg x=some u/\cq v u/\∀H,QM K H v d
theorem oH{X:Cx}{x:Str}{d:D}{pos:Pos}(g:zy X.K X.mg x d)(hg:Gl X x) (hdb:(x == ("__debug__" : Str))=false:=by decide):PL X (.Name x pos) (wC d):=by obtain⟨v,u,h1,h2,h3⟩:=g;exact Jh hg h1 h2 h3 hdb
def NV(o:Obj)(d:D):Prop:=∃ its n vs ds,d=.tup ds/\o.cls=.type "tuple"/\o.data=.seq its n/\its.size<=sizeLine/\cK vs its.toList/\∀ K H,bO K H vs ds
theorem AZ{K:PySem.W.Frag}{mg:Str->Option Value}{x:Str}{d:D}{l:Addr}{o:Obj}(h1:mg x=some (.ref l))(h2:K.lookup l=some o)(h3:NV o d):zy K mg x d:=by obtain⟨its,n,vs,ds,rfl,hc,hd,hz,hv,hr⟩:=h3;exact⟨.ref l,_,h1,rfl,λH=>.tup (.inr ⟨o,its,n,h2,hc,hd,hz,hv⟩) (hr K H)⟩
theorem A0{K:PySem.W.Frag}{mg:Str->Option Value}{x:Str}{s:Str}{t:Tok}(h1:mg x=some (.str s t)):zy K mg x (.str s):=⟨.str s,_,h1,⟨t,rfl⟩,λH=>.str s⟩
theorem sO{K:PySem.W.Frag}{H:Hp}:∀ns:List Int,bO K H (ns.map V.int) (ns.map D.int)
 |[]=>.nil
 |n::ns=>.cons (.int n) (sO ns)
theorem Du{K:PySem.W.Frag}{H:Hp}{a:Addr}{ns:List Int}{fs:FS}{n:Nat}(hl:ns.length<=n)(hO:Nx H)(hS:Qe K H a (ns.map V.int))(h:fs [.d (.lst (ns.map .int))] (λr _=>r=.d (.bl true))):spF K 1 fs [.ref a] H (λv _=>v=.bl true) λ_ _ _=>False:=by
 have hz:QL K H a (ns.map V.int):=by
  rcases hS with(h|⟨o,h⟩)|h
  .
   rcases hO a with z|⟨o,xs,z⟩|⟨q,z⟩
   . rw[z]at h;cases h
   . rw[z]at h;cases h
   . rw[z]at h;cases h
  . exact .inl ⟨o,h⟩
  . exact .inr h
 refine⟨rfl,λ_=>none,[.d (.lst (ns.map .int))],_,⟨(λb o e=>nomatch e),(show([]:List Addr).Nodup from List.nodup_nil),(λa h=>absurd (show a∈([]:List Addr)from h) x_),.cons ⟨.ref a,rfl,.lst hz (sO ns)⟩ .nil⟩,h,λv H' r ls' E p=>?_⟩;subst p;obtain⟨_,e,r⟩:=E.head_d;cases e;obtain rfl:=QM.inv_bl r;rfl
section
variable{X:Cx}
def F6:QT:=λx y k=>match y with
 |.non=>k (.d (.bl (match x with | .non=>true|_=>false)))
 |_=>False
def va:QT:=λx y k=>match y with
 |.non=>k (.d (.bl (match x with | .non=>false|_=>true)))
 |_=>False
theorem Jx:QU X (compareOp .Is) F6:=LX.imp λx y k h=>by
 unfold F6 at h;split at h
 . exact⟨rfl,h⟩
 . exact h.elim
theorem A1:QU X (compareOp .IsNot) va:=Jr.imp λx y k h=>by
 unfold va at h;split at h
 . exact⟨rfl,h⟩
 . exact h.elim
end
end L2
namespace L2
open PySem
theorem A2(a b:Int):Int.gcd b (a.fmod b)=Int.gcd a b:=by rw[Int.fmod_def,Int.gcd_sub_mul_left_right,Int.gcd_comm]
theorem mI(a:Int){b:Int}(h:b≠0):(a.fmod b).natAbs<b.natAbs:=by
 rw[Int.fmod_eq_emod];have h1:=Wz a h;have h2:a % b<(b.natAbs:Int):=Int.emod_lt a h;split
 . omega
 . rename_i q;have:a % b≠0:=λe=>q (.inr (Int.dvd_of_emod_eq_zero e));omega
noncomputable def Rh(q:Rat):D:=.tup [.int q.num,.int (q.den:Int)]
theorem zz{t b:Int}(h:b≠0):0<Int.gcd t b:=Int.gcd_pos_of_ne_zero_right _ h
noncomputable def dn(t b:Int):Int:=if b<0 then -(Int.gcd t b:Int)else(Int.gcd t b:Int)
theorem A3{t b:Int}(h:b≠0):dn t b≠0:=by have:=zz (t:=t) h;unfold dn;split<;>omega
theorem Dv(t b:Int):(dn t b).natAbs=Int.gcd t b:=by unfold dn;split<;>omega
theorem A4{t b:Int}(h:b≠0):(dn t b).natAbs<=b.natAbs:=by rw[Dv];exact Wl xL (by have:=Int.gcd_dvd_right t b;exact Int.natAbs_dvd_natAbs.mpr this |> λq=>by simpa using q)
theorem sP{a g:Int}(hg:g≠0)(h:g∣a):a.fdiv (-g)=-(a / g):=by obtain⟨k,rfl⟩:=h;rw[Int.mul_ediv_cancel_left _ hg,show g*k=(-g)*(-k) by rw[Int.neg_mul_neg],Int.mul_fdiv_cancel_left _ xL]
theorem Dw{t b:Int}(h:b≠0):t.fdiv (dn t b)=(Rat.divInt t b).num:=by
 have hg:=zz (t:=t) h;have hd:(Int.gcd t b:Int)∣t:=Int.gcd_dvd_left t b;rw[Rat.num_divInt,Int.gcd_comm b t];unfold dn;split
 . rename_i hb;rw[sP xL hd,Int.sign_eq_neg_one_of_neg hb,Int.neg_one_mul,Int.neg_ediv_of_dvd hd]
 . rename_i hb;rw[Int.sign_eq_one_of_pos xL,Int.one_mul,Int.fdiv_eq_ediv_of_nonneg _ xL]
theorem Jy{t b:Int}(h:b≠0):b.fdiv (dn t b)=((Rat.divInt t b).den:Int):=by
 have hg:=zz (t:=t) h;have hd:(Int.gcd t b:Int)∣b:=Int.gcd_dvd_right t b;rw[Rat.den_divInt,if_neg h,Int.gcd_comm b t,Int.natCast_ediv];unfold dn;split
 .
  rename_i hb;rw[sP xL hd,<- Int.neg_ediv_of_dvd hd]
  congr 1
  omega
 .
  rename_i hb;rw[Int.fdiv_eq_ediv_of_nonneg _ xL]
  congr 1
  omega
theorem HV{t b:Int}(h:b≠0):(Rat.divInt t b).den<=b.natAbs:=by rw[Rat.den_divInt,if_neg h];exact Nat.div_le_self _ _
theorem HW{t b:Int}(h:b≠0):(Rat.divInt t b).num.natAbs<=t.natAbs:=by rw[<- Dw h];exact PySem.natAbs_fdiv_le _ _
theorem den_pos(q:Rat):0<q.den:=Nat.pos_of_ne_zero q.den_nz
theorem A5(p q:Rat):Rat.divInt (p.num*(q.den:Int)+q.num*(p.den:Int)) ((p.den:Int)*(q.den:Int))=p+q:=by have hp:=den_pos p;have hq:=den_pos q;have:=Rat.divInt_add_divInt p.num q.num (d₁:=(p.den:Int)) (d₂:=(q.den:Int)) xL xL;rw[Vm,Vm]at this;exact this.symm
theorem HX(p q:Rat):Rat.divInt (p.num*(q.den:Int)-q.num*(p.den:Int)) ((p.den:Int)*(q.den:Int))=p-q:=by have:=A5 p (-q);rw[Vw,<- this];simp only[Rat.neg_num,Rat.neg_den,Int.neg_mul,Int.sub_eq_add_neg]
def RB(n:Nat)(q:Rat):Prop:=q.num.natAbs<2^n/\q.den<2^n
theorem RB.mono{m n:Nat}{q:Rat}(h:RB m q)(hl:m<=n):RB n q:=⟨so h.1 (UW xp hl),so h.2 (UW xp hl)⟩
theorem RB.neg{n:Nat}{q:Rat}(h:RB n q):RB n (-q):=⟨by rw[Rat.neg_num,Int.natAbs_neg];exact h.1,by rw[Rat.neg_den];exact h.2⟩
theorem RB.bn{n:Nat}{q:Rat}(h:RB n q)(hl:n<=1000000):dF q.num:=so h.1 (UW xp hl)
theorem RB.bd{n:Nat}{q:Rat}(h:RB n q)(hl:n<=1000000):dF (q.den:Int):=by unfold dF;rw[U5];exact so h.2 (UW xp hl)
theorem bp{a b m n:Nat}(h1:a<2^m)(h2:b<2^n):a*b<2^(m+n):=by rw[Nat.pow_add];exact Nat.mul_lt_mul'' h1 h2
theorem RB.add{m n:Nat}{p q:Rat}(hp:RB m p)(hq:RB n q):RB (m+n+1) (p+q):=by
 have dp:=den_pos p;have dq:=den_pos q;have hne:((p.den:Int)*(q.den:Int))≠0:=Int.mul_ne_zero xL xL;rw[<- A5 p q];have a1:=bp hp.1 hq.2;have a2:=bp hq.1 hp.2;have a3:=bp hp.2 hq.2;have e:(2:Nat)^(m+n+1)=2^(m+n)+2^(m+n):=by rw[Nat.pow_succ];omega
 rw[Nat.add_comm n m]at a2;constructor
 . refine U1 (HW hne) ?_;refine U1 (Int.natAbs_add_le _ _) ?_;rw[V6,V6,U5,U5,e];omega
 . refine U1 (HV hne) ?_;rw[V6,U5,U5,e];omega
@[simp] theorem kM(i j:Int):Q6 (.int i) (.int j)=decide (i=j):=by simp[Q6,Q5,PyData.eqv];by_cases h:i=j<;>simp[h]
@[simp] theorem Jz(i j:Str):Q6 (.str i) (.str j)=decide (i=j):=by simp[Q6,Q5,PyData.eqv];by_cases h:i=j<;>simp[h]
@[simp] theorem Md(i j:Bool):Q6 (.bl i) (.bl j)=decide (i=j):=by simp[Q6,Q5,PyData.eqv];cases i<;>cases j<;>rfl
@[simp] theorem B8(i:Int):fY (.int i):=rfl
@[simp] theorem Dx(i:Bool):fY (.bl i):=rfl
@[simp] theorem B9:fY .non:=rfl
mutual
noncomputable def Ri:Nat->D->Bool
 |_,.non=>true
 |_,.bl _=>true
 |_,.int _=>true
 |_,.str x=>PyData.strOk x
 |0,.tup _=>false
 |0,.lst _=>false
 |n+1,.tup xs=>qN n xs
 |n+1,.lst xs=>qN n xs
 |_,.dct _=>false
 |_,.exc _ _ _=>false
 |_,.fn _ _=>false
 |_,.dk _ _=>false
 |_,.gf _=>false
noncomputable def qN:Nat->List D->Bool
 |_,[]=>true
 |n,x::xs=>Ri n x && qN n xs
end
mutual
theorem iJ:∀(n:Nat)(d:D),Ri n d=true->(Q5 d).canLay0=true/\(Q5 d).depth<=n
 |_,.non,_=>⟨rfl,Vv _⟩
 |_,.bl _,_=>⟨rfl,Vv _⟩
 |_,.int _,_=>⟨rfl,Vv _⟩
 |_,.str x,h=>⟨by simpa[Ri,Q5,PyData.canLay0]using h,Vv _⟩
 |0,.tup _,h=>by simp[Ri]at h
 |0,.lst _,h=>by simp[Ri]at h
 | n+1,.tup xs,h=>by
  obtain⟨h1,h2⟩:=vS n xs (by simpa[Ri]using h)
  exact⟨h1,Nat.succ_le_succ h2⟩
 | n+1,.lst xs,h=>by
  obtain⟨h1,h2⟩:=vS n xs (by simpa[Ri]using h)
  exact⟨h1,Nat.succ_le_succ h2⟩
 |_,.dct _,h=>by simp[Ri]at h
 |_,.exc _ _ _,h=>by simp[Ri]at h
 |_,.fn _ _,h=>by simp[Ri]at h
 |_,.dk _ _,h=>by simp[Ri]at h
 |_,.gf _,h=>by simp[Ri]at h
theorem vS:∀(n:Nat)(ds:List D),qN n ds=true->PyData.canLayAll0 (fX ds)=true/\PyData.depthAll (fX ds)<=n
 |_,[],_=>⟨rfl,Vv _⟩
 | n,d::ds,h=>by
  have h':Ri n d=true/\qN n ds=true:=by simpa[qN]using h
  obtain⟨a1,a2⟩:=iJ n d h'.1
  obtain⟨b1,b2⟩:=vS n ds h'.2
  exact⟨by simp[fX,PyData.canLayAll0,a1,b1],by simp only[fX,PyData.depthAll];omega⟩
end
theorem jC{n:Nat}{d:D}(h:Ri n d=true)(hn:n<=64):fY d:=by obtain⟨h1,h2⟩:=iJ n d h;unfold fY SeqAt.shaped;rw[h1,UX xL];rfl
theorem zA(xs ys:List D):Q6 (.tup xs) (.tup ys)=PyData.eqvAll (fX xs) (fX ys):=by simp[Q6,Q5,PyData.eqv]
theorem JA(xs ys:List D):Q6 (.lst xs) (.lst ys)=PyData.eqvAll (fX xs) (fX ys):=by simp[Q6,Q5,PyData.eqv]
theorem g7(x y:D)(xs ys:List D):PyData.eqvAll (fX (x::xs)) (fX (y::ys))=(Q6 x y && PyData.eqvAll (fX xs) (fX ys)):=by simp[fX,PyData.eqvAll,Q6]
theorem rQ:PyData.eqvAll (fX []) (fX [])=true:=by simp[fX,PyData.eqvAll]
theorem rR(q:Rat):fY (Rh q):=jC (n:=1) (by simp[Rh,Ri,qN]) xp
theorem A6(p q:Rat):Q6 (Rh p) (Rh q)=decide (p=q):=by
 unfold Rh;rw[zA,g7,g7,rQ,kM,kM,VF];by_cases h:p=q
 . subst h;simp
 .
  rw[UM h];by_cases h1:p.num=q.num
  . have:¬((p.den:Int)=(q.den:Int)):=λe=>h (Rat.ext h1 xL);simp[this]
  . simp[h1]
end L2
namespace L2
open PySem PySem.Spec PyProof.Rows
section
variable{X:Cx}{a b c:Expr}{pos p:Pos}{ta tb tc:W L}
def vb(o o':QT)(ta tb tc:W L):W L:=λZ k4=>ta Z λr Z1=>nH r λi=>tb Z1 λr Z2=>nH r λj=>o (.int i) (.int j) λz=>AR z λk=>if k=true then tc Z2 λr Z3=>nH r λl=>o' (.int j) (.int l) λz=>k4 z Z3 else k4 (.d (.bl false)) Z2
def K8(X:Cx)(op:CmpOp)(o:QT):Prop:=∃f:Int->Int->Bool,Qm X (compareOp op) (Qp λi j=>.bl (f i j))/\∀i j k,o (.int i) (.int j) k->k (.d (.bl (f i j)))
theorem Me:K8 X .Lt uw:=⟨_,Lp,λ_ _ _ h=>h⟩
theorem Mf:K8 X .LtE Jj:=⟨_,Lq,λ_ _ _ h=>h⟩
theorem A7{op op':CmpOp}{o o':QT}{f f':Int->Int->Bool}(h1:∀i j k,o (.int i) (.int j) k->k (.d (.bl (f i j))))(h2:∀i j k,o' (.int i) (.int j) k->k (.d (.bl (f' i j))))
  (σ:St) (H Pr:Hp) (Z:Ev) (k4:L->Ev->Prop) (Q:VK) (hQ:∀v H' r Z',aF X.K Pr H' (some v::σ) (r::Z')->k4 r Z'->Q v H') (E:aF X.K Pr H σ Z) (h:vb o o' ta tb tc Z k4) :
  C2 (Qp λi j=>.bl (f i j)) (Qp λi j=>.bl (f' i j)) (tL X.K ta) (tL X.K tb) (tL X.K tc) σ H Q:=by
 refine⟨Pr,Z,_,E,h,λv H1 r Z1 E1 p=>?_⟩;obtain⟨i,rfl,p⟩:=eG p;obtain⟨_,e1,r1⟩:=E1.head_d;cases e1;obtain rfl:=QM.inv_int r1;refine⟨Pr,Z1,_,E1.tail,p,λv H2 r Z2 E2 p=>?_⟩;obtain⟨j,rfl,p⟩:=eG p;obtain⟨_,e1,r1⟩:=E2.head_d;cases e1;obtain rfl:=QM.inv_int r1;refine⟨i,j,rfl,rfl,f i j,rfl,?_⟩;have q:=h1 i j _ p
 cases hk:f i j with
 | false =>
  rw[hk]at q;exact hQ _ _ _ Z2 (E2.tail.cons_d (.bl false)) q
 | true =>
  rw[hk]at q;refine⟨Pr,Z2,_,E2.tail,q,λv H3 r Z3 E3 p=>?_⟩;obtain⟨l,rfl,p⟩:=eG p;obtain⟨_,e1,r1⟩:=E3.head_d;cases e1;obtain rfl:=QM.inv_int r1;exact⟨j,l,rfl,rfl,hQ _ _ _ Z3 (E3.tail.cons_d (.bl _)) (h2 j l _ p)⟩
theorem F7{op op':CmpOp}{o o':QT}(ho:K8 X op o)(ho':K8 X op' o')(ha:PL X a ta)(hb:PL X b tb)(hc:PL X c tc)(hm:lastMarks [op,op'] [b,c]=false:=by with_unfolding_all rfl) :
  PL X (.Compare a [op,op'] [b,c] pos) (vb o o' ta tb tc):=by
 obtain⟨f,r1,h1⟩:=ho;obtain⟨f',r2,h2⟩:=ho';exact PL.of (Fz r1 r2 ha.pe hb.pe hc.pe hm) λσ H Pr Z k4 E h=>A7 (op:=op) (op':=op') h1 h2 σ H Pr Z k4 _ (λv H' r Z' E' p=>⟨r,Z',E',p⟩) E h
theorem F8{op op':CmpOp}{o o':QT}(ho:K8 X op o)(ho':K8 X op' o')(ha:PL X a ta)(hb:PL X b tb)(hc:PL X c tc)(hm:lastMarks [op,op'] [b,c]=false:=by with_unfolding_all rfl) :
  PB X (.Compare a [op,op'] [b,c] pos) (aN (vb o o' ta tb tc)):=by
 obtain⟨f,r1,h1⟩:=ho;obtain⟨f',r2,h2⟩:=ho';intro ab s σ H Pr Z k4 I E h;refine Qb (FC r1 r2 ha.pe hb.pe hc.pe hm ab s σ H (λb H'=>∃Z',aF X.K Pr H' σ Z'/\k4 b Z') I ?_) λb s1 ⟨H1,I1,Z1,E1,p1⟩=>⟨H1,Z1,I1,E1,p1⟩;refine A7 (op:=op) (op':=op') h1 h2 σ H Pr Z (λr Z1=>AR r λb=>k4 b Z1) _ (λv H' r Z' E' p=>?_) E h;obtain⟨b,rfl,p⟩:=sE p;obtain⟨_,e1,r1⟩:=E'.head_d;cases e1;obtain rfl:=QM.inv_bl r1;exact⟨b,rfl,Z',E'.tail,p⟩
end
end L2
namespace L2
open PySem PySem.Spec PyProof.Rows PySem.Builtin.Str
section
variable{X:Cx}{a:Expr}{pos p2:Pos}{ta:W L}{x:Str}
theorem Mg:Qw X (λx lo hi H Q=>∃z,x=.str z/\z.length<=sizeLine/\Q (.str (Txt.slice z lo hi)) H):=by
 intro ab s σ H x v vl vu lo hi sl Q I rx hs pl pu h;obtain⟨z,rfl,hz,q⟩:=h;obtain⟨t,rfl⟩:=rx;refine⟨"str",_,F.slot_str_getitem.lookup,typeIs_str _ _ _,?_⟩
 obtain⟨l',rfl,rfl⟩:∃l':Option (Int×Tok),vl=partValue l'/\lo=l'.map (·.1):=by
  cases pl
  . exact⟨none,rfl,rfl⟩
  . exact⟨some (_,_),rfl,rfl⟩
 obtain⟨u',rfl,rfl⟩:∃l':Option (Int×Tok),vu=partValue l'/\hi=l'.map (·.1):=by
  cases pu
  . exact⟨none,rfl,rfl⟩
  . exact⟨some (_,_),rfl,rfl⟩
 exact wpAny_getItem_str_slice (l:=l') (u:=u') (st:=none) hs rfl (post_val_or_str ⟨UT (Txt.slice_le z _ _) hz,λt' k=>⟨.str _,H,I.tok k,⟨t',rfl⟩,q⟩⟩)
def HY(ta:W L)(lo hi:Option (W L)):W L:=λZ k4=>ta Z λr Z1=>QS r λd=>B6 lo Z1 λl Z2=>B6 hi Z2 λu Z3=>match d with
 |.lst xs=>∀a,k4 (.own a (CK xs l u)) Z3
 |.str z=>z.length<=sizeLine/\k4 (.d (.str (Txt.slice z l u))) Z3
 |.tup xs=>¬(HT.sIx xs.length 0 l=0/\HT.sIx xs.length xs.length u=xs.length)/\k4 (.d (.tup (CK xs l u))) Z3
 |_=>False
theorem oS{lo hi:Option Expr}{tl th:Option (W L)}(ha:PL X a ta)(hl:Rf X lo tl)(hh:Rf X hi th):PL X (.Subscript a (.Slice lo hi none p2) pos) (HY ta tl th):=by
 refine PL.of (FG (Qw.or IX (Qw.or Mg Lw)) (az ha).pe (Ma hl) (Ma hh)) λσ H Pr Z k4 E h=>?_
 refine⟨Pr,Z,λr Z1=>match r with
  | .d d=>B6 tl Z1 λl Z2=>B6 th Z2 λu Z3=>match d with
   |.lst xs=>∀a,k4 (.own a (CK xs l u)) Z3
   |.str z=>z.length<=sizeLine/\k4 (.d (.str (Txt.slice z l u))) Z3
   |.tup xs=>¬(HT.sIx xs.length 0 l=0/\HT.sIx xs.length xs.length u=xs.length)/\k4 (.d (.tup (CK xs l u))) Z3
   |_=>False
  |_=>False,E,h,λv H1 r Z1 E1 pp=>?_⟩
 cases r with
 | d d =>
  obtain⟨_,e1,p1⟩:=E1.head_d;cases e1;refine⟨bE H1 Z1,Z1,_,E1.tail.wide,pp,λl H2 Z2 E2 pp=>?_⟩;have F2:aF X.K Pr H2 (some v::σ) (.d d::Z2):=aF.step (τ:=[some v]) (lam:=[.d d]) (w:=[]) (μ:=[]) E1 rfl E2 rfl;refine⟨bE H2 Z2,Z2,_,F2.tail.wide,pp,λu H3 Z3 E3 pp=>?_⟩;have F3:aF X.K Pr H3 (some v::σ) (.d d::Z3):=aF.step (τ:=[some v]) (lam:=[.d d]) (w:=[]) (μ:=[]) F2 rfl E3 rfl;obtain⟨_,e1,p1⟩:=F3.head_d;cases e1
  cases p1 with
  |lst hz rs=>exact .inl ⟨_,_,rfl,hz.l,λq hq=>⟨_,_,F3.tail.cons_own hq (xM rs l u),pp q⟩⟩
  |str z=>exact .inr (.inl ⟨z,rfl,pp.1,_,_,F3.tail.cons_d (.str _),pp.2⟩)
  |tup hz rs=>exact .inr (.inr ⟨_,_,rfl,hz,by rw[rs.length];exact pp.1,λq hq=>⟨_,_,F3.tail.cons_tup hq (xM rs l u),pp.2⟩⟩)
  |_=>exact pp.elim
 |_=>exact pp.elim
def NW(K:PySem.W.Frag):V->List V->Hp->VK->Prop:=λx vs H Q=>∃z a ys zs,x=.str z/\vs=[.ref a]/\(Qe K H a ys∨Qf K H a ys)/\ys=zs.map V.str/\(zs.map (·.length)).sum+zs.length*z.length<=16777216/\Q (.str (Txt.join z zs)) H
theorem sQ:∀{zs:List Str}{us:List Value},cK (zs.map V.str) us->StrsAre us zs
 |[],_,.nil=>.nil
 | z::zs,_,.cons r t=>by obtain⟨t',rfl⟩:=r;exact .cons z t' (sQ t)
theorem JB:QB X "str.join" (NW X.K):=by
 intro ab s σ H x vs v us Q I rx rv h;obtain⟨z,a,ys,zs,rfl,rfl,hq,rfl,hz,q⟩:=h;obtain⟨t,rfl⟩:=rx;obtain⟨u,rfl,ru⟩:=rv.one;cases ru;rcases hq with hq|hq
 . obtain⟨its,r,pl,_⟩:=I.list hq;exact join_list pl.isList (by simpa using sQ r) hz λt' k=>⟨.str _,H,I.tok k,⟨t',rfl⟩,q⟩
 . obtain⟨its,r,pl,_⟩:=I.tuple hq;exact join_tuple pl (by simpa using sQ r) hz λt' k=>⟨.str _,H,I.tok k,⟨t',rfl⟩,q⟩
end
section
variable{X:Cx}{e a b c:Expr}{es:List Expr}{pos p apos cpos:Pos}{te:W L}{x y:Str}
def JC(z:Str)(te:W L):W L:=λZ k4=>te Z λr Z1=>QS r λd=>kI d λxs=>∃zs,xs=zs.map D.str/\(zs.map (·.length)).sum+zs.length*z.length<=16777216/\k4 (.d (.str (Txt.join z zs))) Z1
theorem sR{K:PySem.W.Frag}{H:Hp}:∀{zs:List Str}{vs:List V},bO K H vs (zs.map D.str)->vs=zs.map V.str
 |[],_,.nil=>rfl
 | z::zs,_,.cons r t=>by obtain rfl:=QM.inv_str r;rw[sR t];rfl
theorem JD{z:Str}{j:Nat}{pz:Pos}(he:PL X e te)(hs1:starEach [e] X.env=[(false,eval e X.env)]:=by rfl) (hbase:attributeBase (.Constant (.str z) j pz) "join" X.env (eval (.Constant (.str z) j pz) X.env)=eval (.Constant (.str z) j pz) X.env:=by rfl)
  (hfew:((backTo cpos (starEach [e] X.env)).all (λx=>!x.1) && (backToKw cpos (keywordEach [] X.env)).all (λx=>x.1.isSome)
   && decide (([e]).length+([]:List Keyword).length+(if([]:List Keyword).isEmpty then 0 else 1)<30))=true:=by rfl)
  (hline:(apos.endLine == cpos.line)=true:=by rfl) (hplain:(backTo cpos (starEach ([]:List Expr) X.env)).any (·.1)=false:=by rfl) :
  PL X (.Call (.Attribute (.Constant (.str z) j pz) "join" apos) [e] [] cpos) (JC z te):=by
 refine PL.of (LC PySem.F.plainAttrs_str PySem.F.slot_str_join PySem.F.type_str_join JB HF (gW (az he).pe sq hs1) (hbase:=hbase) (hfew:=hfew) (hline:=hline) (hs:=hs1) (hplain:=hplain)) λσ H Pr Z k4 E h=>?_
 refine⟨rfl,Pr,Z,λr Z1=>match r with
  |.d d=>kI d λxs=>∃zs,xs=zs.map D.str/\(zs.map (·.length)).sum+zs.length*z.length<=16777216/\k4 (.d (.str (Txt.join z zs))) Z1
  |_=>False,E,h,λv H' r Z' E' pp=>?_⟩
 cases r with
 | d d =>
  obtain⟨_,e1,p1⟩:=E'.head_d;cases e1
  cases p1 with
  | lst hz rs =>
   obtain⟨zs,rfl,hl,pp⟩:=pp;exact⟨z,_,_,zs,rfl,rfl,.inl hz.l,sR rs,hl,_,_,E'.tail.cons_d (.str _),pp⟩
  | tup hz rs =>
   obtain⟨zs,rfl,hl,pp⟩:=pp;exact⟨z,_,_,zs,rfl,rfl,.inr hz,sR rs,hl,_,_,E'.tail.cons_d (.str _),pp⟩
  |_=>exact pp.elim
 |_=>exact pp.elim
theorem P7.turnedL{ab:List (Addr×Obj)}{σ:St}{H:Hp}{s:Shared}{h':Heap}{t':Nat}{fp:List Addr}(I:P7 X ab σ H s)(k:∀b o,b∉fp->s.heap.get? b=some o->h'.get? b=some o)(hf:∀b∈fp,CU X ab H b):P7 X ab σ H {s with heap:=h',toks:=t' }:=by
 have nit:∀b u,H b=some u->b∉fp:=λb u e z=>by rw[(hf b z).1]at e;cases e
 refine I.step (g':=s.gens) (d':=s.drawn) (ch:=fp) (λb hb=>?_) (λb o _ _ hc e _=>k b o hc e) (λb o _ _ hc e _=>⟨o.slots,k b o hc e⟩) (λ_ _ _ _ n=>n)
  (λb o hc e=>⟨o,k b o hc e⟩) (λ_ _ e=>e) (λ_ _ _ e=>e) (λ_ _ e=>e) (λm hm=>?_) (λb u e=>?_) I.bare
 . obtain⟨f0,f1,f2,f3,f4,f5⟩:=hf b hb;exact⟨f3,f1,f4,f5⟩
 . obtain⟨o,es,ep,ho,r⟩:=hm;exact⟨o,es,ep,k _ o (λz=>(hf _ z).2.1 rfl) ho,r⟩
 .
  refine(I.hok b u e).stay (λc v hc q=>k c v ?_ q) (λ_ q=>q) (λ_ _ q=>q) λ_ _ _ _ q=>q;rcases hc with z|z
  . rw[z];exact nit b u e
  . exact nit c _ z
noncomputable def Rj(K:PySem.W.Frag)(a:Addr):It :=
 ⟨λi H=>∃xs x,Qe K H a xs/\xs[i]?=some x,λi H v H'=>∃p x,v=.ref p/\H p=none/\H'=PY H p (.tup [.int i,x])/\∀xs,Qe K H a xs->xs[i]?=some x,λi H=>∃xs,Qe K H a xs/\xs.length<=i⟩
theorem Dy{P:Program}{w:World}{K:PySem.W.Frag}{k:Nat}(q it a:Addr)(hne:q≠it):HH P w K (.Tuple es k pos) (Rj K a) [q,it] q (λi h=>(∃old,IsEnum h q it i old)/\h.IsListIter it a i) where
 mem:=by simp
 obj:=λi h st b hb=>by
  obtain⟨⟨old,he⟩,o,e,c,d⟩:=st;rcases UV.mp hb with rfl|hb
  .
   exact⟨_,he,λv z=>by
    have z':Data.fields _=Data.cell v:=z
    cases z'⟩
  .
   have e':b=it:=by simpa using hb
   subst e';exact⟨o,e,λv z=>by rw[d]at z;cases z⟩
 keep:=λi h h' st kk=>⟨let ⟨old,he⟩:=st.1;⟨old,kk q x_ _ he⟩,st.2.at λo e=>kk it x_ o e⟩
 item:=by
  intro X hP hw hK hc i ab s σ H E I hf st hg;subst hP hw hK;obtain⟨xs,x,hq,hx⟩:=hg;obtain⟨its,rv,p,hz⟩:=I.list hq;obtain⟨u,hu,ru⟩:=rv.get hx;obtain⟨⟨old,he⟩,hit⟩:=st;have hai:a≠it:=λz=>by subst z;obtain⟨o,e,c,d⟩:=hit;obtain⟨o',e',c',_⟩:=p.isList;rw[e]at e';cases e';rw[c]at c';exact absurd c' x_
  have hqa:q≠a:=λz=>by subst z;obtain⟨o',e',c',_⟩:=p.isList;rw[he]at e';cases e';exact absurd c' x_
  have D:=Draws.list (prog:=X.prog) (w:=X.w) (A:=X.A.in1) (I.ok.hd hc) it a hai its.toArray;have hlt:i<its.toArray.size:=by rw[UZ];exact(k5.mp hu).1
  refine wpAny_pyNext_enum_itemD D he ⟨hit,p.isList⟩ hlt hne (by simp[hne,hqa]) λx' h' tk hPx hout hst' htup hsz hk=>?_
  have hx':x'=u:=by
   have:its.toArray[i]?=some u:=by simpa using hu
   rw[this]at hPx;exact(U6 hPx).symm
  subst hx';refine⟨.ref s.heap.objs.size,rfl,wpAny_letOwnedTupleGo_enum (s:={s with heap:=h',toks:=tk+1}) hout λh'' he'' hs''=>?_⟩;have qlt:q<s.heap.objs.size:=UR he;have ilt:it<s.heap.objs.size:=by obtain⟨o,e,_⟩:=hit;exact UR e
  have I1:P7 X ab σ (PY H s.heap.objs.size (.tup [.int i,x])) {s with heap:=s.heap.push {cls:=.type "tuple",data:=.seq #[.int i tk,x'] },toks:=tk} :=
   I.laid (λb ob q=>tu _ q) (US _) ⟨by show 2<=sizeLine;decide,[.int i tk,x'],.cons ⟨tk,rfl⟩ (.cons ru .nil),⟨_,U3 _ rfl,rfl,_,rfl⟩⟩
  have hf1:∀b∈[q,it],CU X ab (PY H s.heap.objs.size (.tup [.int i,x])) b:=λb hb=>by
   refine⟨?_,(hf b hb).2⟩;rw[aG ?_]
   . exact(hf b hb).1
   .
    rcases UV.mp hb with rfl|hb
    . exact U7 qlt
    . rw[Vx.mp hb];exact U7 ilt
  have I2:=I1.turnedL (h':=h'') (t':=tk+1) (fp:=[q,it]) (λb o hb e=>by
   have hbq:b≠q:=λz=>hb (by simp[z]);have hbi:b≠it:=λz=>hb (by simp[z]);refine(hs''.2 b hbq).trans ?_;rcases Heap.get?_push_cases e with⟨rfl,rfl⟩|e
   . exact htup
   .
    exact hk b o hbq hbi e) hf1
  refine⟨.ref s.heap.objs.size,_,I2,rfl,⟨_,x,rfl,I.fresh,rfl,λys hy=>by rw[I.list_inj hy hq];exact hx⟩,⟨⟨_,by simpa using he''⟩,hst'.1.extBut hs''.extBut (VB hne)⟩,λb hb=>(hf1 b hb).1⟩
 done:=by
  intro X hP hw hK hc i ab s σ H E I hf st hg;subst hP hw hK;obtain⟨xs,hq,hx⟩:=hg;obtain⟨its,rv,p,hz⟩:=I.list hq;obtain⟨⟨old,he⟩,hit⟩:=st;have hai:a≠it:=λz=>by subst z;obtain⟨o,e,c,d⟩:=hit;obtain⟨o',e',c',_⟩:=p.isList;rw[e]at e';cases e';rw[c]at c';exact absurd c' x_
  have hl:=rv.length;have hT:s.TypeIs (.ref q) "enumerate":=⟨_,he,rfl⟩;unfold pyNext
  refine UL (wpAny_attempt (wpAny_callSpecial?_slot (name:=Str.ofString "__next__") hT F.slot_enumerate_next
   (wpAny_call_entry F.slot_enumerate_next hT F.entry_enumerate_next ?_ (F.args_enumerate_next_1 _))))
  show wpAny _ _ (field (.ref q) 2 >>= _) _ _ _;refine UL (wpAny_field he rfl (x:=.ref it) rfl ?_);refine UL (wpAny_nextOf_list_end (I.ok.hd hc) hit p.isList (by simp;omega) λh' x he' hx'=>?_);obtain⟨o,ho,hcc⟩:=hx';refine UL (wpAny_isInstance (T:="StopIteration") (b:=true) ⟨o,ho,hcc⟩ isSubtype_stop ?_);refine U0 ⟨rfl,?_⟩;exact I.turnedL (t':=s.toks) (fp:=[q,it]) (λb o hb e=>he' b o (λz=>hb (by simp[z])) e) hf
 self:=λ_ _ _ _ _ st h=>let ⟨_,he⟩:=st.1;wpAny_pyIter_enum he h
noncomputable def fh(xs:List D):List D:=xs.zipIdx.map λp=>.tup [.int (p.2:Int),p.1]
theorem Ca{K:PySem.W.Frag}{H:Hp}{a:Addr}{vs:List V}{xs:List D}(h:QL K H a vs)(r:bO K H vs xs):zp K H (Rj K a) (fh xs):=λH' p=>by
 have h':=(h.pres p).l;have b0:(fh xs).length=vs.length:=by rw[r.length];simp[fh]
 refine⟨λi x e=>?_,⟨vs,h',by rw[b0];exact US _⟩⟩;have hi:i<vs.length:=by rw[<- b0];exact(k5.mp e).1
 have hi2:i<xs.length:=by rw[<- r.length];exact hi
 have ex:x=.tup [.int (i:Int),xs[i]]:=by
  have:(fh xs)[i]?=some (.tup [.int (i:Int),xs[i]]):=by simp[fh,hi2]
  rw[this]at e;exact(U6 e).symm
 obtain⟨v,ev,rv⟩:=r.get (i:=i) (fI hi2);refine⟨⟨vs,v,h',ev⟩,λw H2 ⟨q,y,e1,e2,e3,e4⟩=>?_⟩;have e5:=e4 vs h';rw[ev]at e5;cases e5;subst e1 e3 ex;refine⟨.inr ⟨_,_,e2,rfl⟩,.tup (.inl (.inl (bC ..))) (.cons (.int _) (.cons ((rv.pres p).new e2) .nil))⟩
def xO(t:W L):W (List D):=λZ k4=>t Z λr Z1=>QS r λd=>match d with
 |.lst xs=>k4 (fh xs) Z1
 |_=>False
theorem l8{k:Nat}{t:W L} (hg:Gl X "enumerate") (hm:X.mg "enumerate"=none) (ha:PL X a t) (hs:starEach [a] X.env=[(false,eval a X.env)]:=by rfl):Q4 X (.Tuple es k apos) (.Call (.Name "enumerate" p) [a] [] pos) (xO t):=by
 intro ab s σ H Pr Z k4 I E h
 refine Call_ (oI I hg hm boot_enumerate (V4 (Qb (af (az ha) ag hs pos ab s σ H Pr Z (λls Z1=>match ls with
  |[.d (.lst xs)]=>k4 (fh xs) Z1
  |_=>False) I E ?_) λus s1 h_=>h_.on λvs H1 ls Z1 I1 r1 hl hb E1 _ q1=>?_) hs rfl))
 .
  show t Z _
  have e:(λr Z1=>QS r λd=>match d with | .lst xs=>k4 (fh xs) Z1|_=>False)=(λr Z1=>QS r λx=>aH Z1 λxs Z2=>match L.d x::xs with | [.d (.lst xs)]=>k4 (fh xs) Z2|_=>False):=by
   funext r Z1
   cases r with
   |un=>rfl
   |d d=>cases d<;>rfl
   |own=>rfl
   | bx b ls =>
    show fg (bL (.bx b ls)) _=fg (bL (.bx b ls)) _
    cases bL (.bx b ls)with
    |none=>rfl
    |some d=>cases d<;>rfl
   |dic b ls=>rfl
  rw[<- e];exact h
 .
  (try dsimp only at q1)
  split at q1
  .
   rename_i xs
   cases vs with
   |nil=>exact absurd hl x_
   | cons v vs =>
    have:vs=[]:=by
     have:vs.length=0:=by simpa using hl
     exact Wi.mp this
    subst this;obtain⟨_,e1,p1⟩:=aF.head_d (σ:=σ) (Z:=Z1) E1;cases e1;obtain⟨_,_,rfl,hz,rs⟩:=QM.inv_lst p1;obtain⟨u,rfl,ru⟩:=r1.one;cases ru;obtain⟨its,rv,pl,hz'⟩:=I1.list hz.l;refine call_enumerate_list pl.isList λh' hE hI hsz hk=>?_;refine wpAny_pyIter_enum (s:={s1 with heap:=h' }) hE ?_;have E2:aF X.K Pr H1 σ Z1:=aF.tail (σ:=σ) (Z:=Z1) E1;refine⟨s1.heap.objs.size+1,[s1.heap.objs.size+1,s1.heap.objs.size],_,_,H1,_,Z1,rfl,I1.kept (t':=s1.toks) hk,Dy _ _ _ (Nat.succ_ne_self _),⟨⟨_,hE⟩,hI⟩,λb hb=>?_,E2,Ca hz rs,q1⟩
    have hb':s1.heap.objs.size<=b:=by
     rcases UV.mp hb with rfl|hb
     . exact Nat.le_succ _
     . rw[Vx.mp hb];exact US _
    exact I1.fpOk hb' (I1.hok.fresh hb')
  . exact q1.elim
end
section
variable{X:Cx}{e a b:Expr}{es:List Expr}{pos p p2 apos:Pos}{x y:Str}
noncomputable def Rk(K:PySem.W.Frag)(a b:Addr):It :=
 ⟨λi H=>∃xs ys x y,Qe K H a xs/\Qe K H b ys/\xs[i]?=some x/\ys[i]?=some y,λi H v H'=>∃p x y,v=.ref p/\H p=none/\H'=PY H p (.tup [x,y])/\(∀xs,Qe K H a xs->xs[i]?=some x)/\∀ys,Qe K H b ys->ys[i]?=some y,
  λi H=>∃xs ys,Qe K H a xs/\Qe K H b ys/\(xs.length<=i∨ys.length<=i)⟩
theorem du{h:Heap}{l a:Addr}{its:Array Value}{o:Obj}(hl:h.IsList l its)(ho:h.get? a=some o) (hc:o.cls≠.type "list"):l≠a:=λz=>by subst z;obtain⟨o',e',c',_⟩:=hl;rw[ho]at e';cases e';exact hc c'
theorem Ga{P:Program}{w:World}{K:PySem.W.Frag}{k:Nat}(z TI TO i1 i2 l1 l2:Addr)(hnd:[z,TI,TO,i1,i2].Nodup):HH P w K (.Tuple es k pos) (Rk K l1 l2) [z,TI,TO,i1,i2] z
  (λi h=>IsZip h z TI TO .none/\IsPair h TI (.ref i1) (.ref i2)/\(∃a b,IsPair h TO a b)/\h.IsListIter i1 l1 i/\h.IsListIter i2 l2 i) where
 mem:=by simp
 obj:=λi h st b hb=>by
  obtain⟨hz,hTI,⟨p,q,hTO⟩,⟨o1,e1,c1,d1⟩,⟨o2,e2,c2,d2⟩⟩:=st;simp only[UV,Wn,or_false]at hb;rcases hb with rfl|rfl|rfl|rfl|rfl
  .
   exact⟨_,hz,λv z=>by
    have z':Data.fields _=Data.cell v:=z
    cases z'⟩
  .
   exact⟨_,hTI,λv z=>by
    have z':Data.seq _ _=Data.cell v:=z
    cases z'⟩
  .
   exact⟨_,hTO,λv z=>by
    have z':Data.seq _ _=Data.cell v:=z
    cases z'⟩
  . exact⟨o1,e1,λv z=>by rw[d1]at z;cases z⟩
  . exact⟨o2,e2,λv z=>by rw[d2]at z;cases z⟩
 keep:=λi h h' st kk=>by obtain⟨hz,hTI,⟨p,q,hTO⟩,h1,h2⟩:=st;exact⟨kk z x_ _ hz,kk TI x_ _ hTI,⟨p,q,kk TO x_ _ hTO⟩,h1.at λo e=>kk i1 x_ o e,h2.at λo e=>kk i2 x_ o e⟩
 item:=by
  intro X hP hw hK hc i ab s σ H E I hf st hg;subst hP hw hK;obtain⟨xs,ys,x,y,hq1,hq2,hx,hy⟩:=hg;obtain⟨its,rv,pl,_⟩:=I.list hq1;obtain⟨its2,rv2,pl2,_⟩:=I.list hq2;obtain⟨u,hu,ru⟩:=rv.get hx;obtain⟨u2,hu2,ru2⟩:=rv2.get hy;obtain⟨hz,hTI,⟨p,q,hTO⟩,h1,h2⟩:=st;obtain⟨o1,e1,c1,d1⟩:=id h1;obtain⟨o2,e2,c2,d2⟩:=id h2;have n1:o1.cls≠.type "list":=by rw[c1]; simp
  have n2:o2.cls≠.type "list":=by rw[c2]; simp
  simp only[Vf,UV,Wn,or_false,not_or,List.nodup_nil,and_true,not_false_eq_true]at hnd;obtain⟨⟨a1,a2,a3,a4⟩,⟨b1,b2,b3⟩,⟨c1',c2'⟩,d1'⟩:=hnd
  have D:ZipApart z TI TO i1 i2 l1 l2:=⟨VB a1,VB a2,VB a3,VB a4,b1,b2,b3,c1',c2',d1',du pl.isList hz x_,du pl.isList hTO x_,du pl.isList e1 n1,du pl.isList e2 n2,
   du pl2.isList hz x_,du pl2.isList hTO x_,du pl2.isList e1 n1,du pl2.isList e2 n2⟩
  refine wpAny_pyNext_zip_item D hz hTI hTO h1 h2 pl.isList pl2.isList (x:=u) (y:=u2) (by simpa using hu) (by simpa using hu2) λh' hz' hTO' h1' h2' hT' hsz hk=>?_;refine⟨.ref s.heap.objs.size,rfl,wpAny_letOwnedTupleGo_zip (s:={s with heap:=h' }) hz' λh'' hz'' hs''=>?_⟩
  have lt:∀b∈[z,TI,TO,i1,i2],b<s.heap.objs.size:=λb hb=>by
   simp only[UV,Wn,or_false]at hb;rcases hb with rfl|rfl|rfl|rfl|rfl
   . exact UR hz
   . exact UR hTI
   . exact UR hTO
   . exact UR e1
   . exact UR e2
  have I1:P7 X ab σ (PY H s.heap.objs.size (.tup [x,y])) {s with heap:=s.heap.push {cls:=.type "tuple",data:=.seq #[u,u2] },toks:=s.toks} :=
   I.laid (λb ob q=>tu _ q) (US _) ⟨by show 2<=sizeLine;decide,[u,u2],.cons ru (.cons ru2 .nil),⟨_,U3 _ rfl,rfl,_,rfl⟩⟩
  have hf1:∀b∈[z,TI,TO,i1,i2],CU X ab (PY H s.heap.objs.size (.tup [x,y])) b:=λb hb=>by refine⟨?_,(hf b hb).2⟩;rw[aG (U7 (lt b hb))];exact(hf b hb).1
  have I2:=I1.turnedL (h':=h'') (t':=s.toks) (fp:=[z,TI,TO,i1,i2]) (λb o hb e=>by
   simp only[UV,Wn,or_false,not_or]at hb;obtain⟨hbz,hbTI,hbTO,hb1,hb2⟩:=hb;refine(hs''.2 b hbz).trans ?_;rcases Heap.get?_push_cases e with⟨rfl,rfl⟩|e
   . exact hT'
   .
    exact hk b o hbz hbTO hb1 hb2 e) hf1
  exact⟨.ref s.heap.objs.size,_,I2,rfl,⟨_,x,y,rfl,I.fresh,rfl,λzs hy'=>by rw[I.list_inj hy' hq1];exact hx,λzs hy'=>by rw[I.list_inj hy' hq2];exact hy⟩,
   ⟨hz'',hs''.extBut _ _ D.TIz (hk _ _ D.TIz D.TITO D.TIi1 D.TIi2 hTI),⟨_,_,hs''.extBut _ _ D.TOz hTO'⟩,h1'.extBut hs''.extBut D.i1z,h2'.extBut hs''.extBut D.i2z⟩,λb hb=>(hf1 b hb).1⟩
 done:=by
  intro X hP hw hK hc i ab s σ H E I hf st hg;subst hP hw hK;obtain⟨xs,ys,hq1,hq2,hend⟩:=hg;obtain⟨its,rv,pl,_⟩:=I.list hq1;obtain⟨its2,rv2,pl2,_⟩:=I.list hq2;obtain⟨hz,hTI,⟨p,q,hTO⟩,h1,h2⟩:=st;obtain⟨o1,e1,c1,d1⟩:=id h1;obtain⟨o2,e2,c2,d2⟩:=id h2;have n1:o1.cls≠.type "list":=by rw[c1]; simp
  have n2:o2.cls≠.type "list":=by rw[c2]; simp
  simp only[Vf,UV,Wn,or_false,not_or,List.nodup_nil,and_true,not_false_eq_true]at hnd;obtain⟨⟨a1,a2,a3,a4⟩,⟨b1,b2,b3⟩,⟨c1',c2'⟩,d1'⟩:=hnd
  have D:ZipApart z TI TO i1 i2 l1 l2:=⟨VB a1,VB a2,VB a3,VB a4,b1,b2,b3,c1',c2',d1',du pl.isList hz x_,du pl.isList hTO x_,du pl.isList e1 n1,du pl.isList e2 n2,
   du pl2.isList hz x_,du pl2.isList hTO x_,du pl2.isList e1 n1,du pl2.isList e2 n2⟩
  have hl:=rv.length;have hl2:=rv2.length
  have hend':its.toArray[i]?=none∨its2.toArray[i]?=none:=by
   rcases hend with h|h
   . exact .inl (by simp;omega)
   . exact .inr (by simp;omega)
  refine wpAny_pyNext_zip_end (I.ok.hd hc) D hz hTI hTO h1 h2 pl.isList pl2.isList hend' λh' hk=>⟨rfl,?_⟩;exact I.turnedL (t':=s.toks) (fp:=[z,TI,TO,i1,i2]) (λb o hb e=>hk b o (λz=>hb (by simp[z])) (λz=>hb (by simp[z])) (λz=>hb (by simp[z])) (λz=>hb (by simp[z])) e) hf
 self:=λ_ _ _ _ _ st h=>wpAny_pyIter_zip st.1 h
noncomputable def Ft(xs ys:List D):List D:=(xs.zip ys).map λp=>.tup [p.1,p.2]
theorem Dz{K:PySem.W.Frag}{H:Hp}{a b:Addr}{vs ws:List V}{xs ys:List D}(h:QL K H a vs)(r:bO K H vs xs)(h2:QL K H b ws)(r2:bO K H ws ys):zp K H (Rk K a b) (Ft xs ys):=λH' p=>by
 have h':=(h.pres p).l;have h2':=(h2.pres p).l;have b0:(Ft xs ys).length=min vs.length ws.length:=by rw[r.length,r2.length];simp[Ft]
 refine⟨λi x e=>?_,⟨vs,ws,h',h2',by rw[b0];omega⟩⟩;have hi:i<min vs.length ws.length:=by rw[<- b0];exact(k5.mp e).1
 have hi2:i<xs.length:=by rw[<- r.length];omega
 have hi3:i<ys.length:=by rw[<- r2.length];omega
 have ex:x=.tup [xs[i],ys[i]]:=by
  have:(Ft xs ys)[i]?=some (.tup [xs[i],ys[i]]):=by simp[Ft,hi2,hi3,List.getElem?_zip_eq_some]
  rw[this]at e;exact(U6 e).symm
 obtain⟨v,ev,rv⟩:=r.get (i:=i) (fI hi2);obtain⟨v2,ev2,rv2⟩:=r2.get (i:=i) (fI hi3);refine⟨⟨vs,ws,v,v2,h',h2',ev,ev2⟩,λw H2 ⟨q,y,y2,e1,e2,e3,e4,e5⟩=>?_⟩;have e6:=e4 vs h';have e7:=e5 ws h2';rw[ev]at e6;rw[ev2]at e7;cases e6;cases e7;subst e1 e3 ex;refine⟨.inr ⟨_,_,e2,rfl⟩,.tup (.inl (.inl (bC ..))) (.cons ((rv.pres p).new e2) (.cons ((rv2.pres p).new e2) .nil))⟩
def K9(d d2:D)(k:List D->Prop):Prop:=match d,d2 with
 |.lst xs,.lst ys=>k (Ft xs ys)
 |_,_=>False
def NA(t u:W L):W (List D):=λZ k4=>t Z λr Z1=>QS r λd=>u Z1 λr2 Z2=>QS r2 λd2=>K9 d d2 λzs=>k4 zs Z2
theorem DA{k:Nat}{t u:W L} (hg:Gl X "zip") (hm:X.mg "zip"=none) (ha:PL X a t) (hb:PL X b u) (hs:starEach [a,b] X.env=[(false,eval a X.env),(false,eval b X.env)]:=by rfl) (hs2:starEach [b] X.env=[(false,eval b X.env)]:=by rfl) :
  Q4 X (.Tuple es k apos) (.Call (.Name "zip" p) [a,b] [] pos) (NA t u):=by
 intro ab s σ H Pr Z k4 I E h
 refine Call_ (oI I hg hm boot_zip (V4 (Qb (af (az ha) (af (az hb) ag hs2) (by rw[hs,hs2]) pos ab s σ H Pr Z (λls Z1=>match ls with
  |[.d d,.d d2]=>K9 d d2 λzs=>k4 zs Z1
  |_=>False) I E ?_) λus s1 h_=>h_.on λvs H1 ls Z1 I1 r1 hl hb E1 _ q1=>?_) (by rw[hs,hs2]) (by rw[hs2];rfl)))
 .
  show t Z _
  have e:(λr Z1=>QS r λd=>u Z1 λr2 Z2=>QS r2 λd2=>K9 d d2 λzs=>k4 zs Z2)
    = (λr Z1=>QS r λx=>aq (bB u) aH Z1 λxs Z2=>match L.d x::xs with | [.d d,.d d2]=>K9 d d2 λzs=>k4 zs Z2|_=>False):=by
   funext r Z1
   cases r with
   |un=>rfl
   |d d=>rfl
   |own a xs=>rfl
   | bx b ls =>
    show fg (bL (.bx b ls)) _=fg (bL (.bx b ls)) _;cases bL (.bx b ls)<;>rfl
   |dic b ls=>rfl
  rw[<- e];exact h
 .
  (try dsimp only at q1)
  split at q1
  .
   rename_i d d2;unfold K9 at q1;split at q1
   rotate_left
   . exact q1.elim
   rename_i xs ys
   match vs,hl with
   | [v,v2],_ =>
    obtain⟨_,e1,p1⟩:=aF.head_d (σ:=some v2::σ) (Z:=.d (.lst ys)::Z1) E1;cases e1;obtain⟨_,e1,p2⟩:=aF.head_d (σ:=σ) (Z:=Z1) (aF.tail (σ:=some v2::σ) (Z:=.d (.lst ys)::Z1) E1);cases e1;obtain⟨_,_,rfl,hz,rs⟩:=QM.inv_lst p1
    cases p2 with
    | lst hz2 rs2 =>
     obtain⟨u1,u2,rfl,ru,ru2⟩:=r1.two;cases ru;cases ru2;obtain⟨its,rv,pl,_⟩:=I1.list hz.l;obtain⟨its2,rv2,pl2,_⟩:=I1.list hz2.l;refine call_zip_2 pl.isList pl2.isList λh' hZ hTI hTO hI1 hI2 hsz hk=>?_;refine wpAny_pyIter_zip (s:={s1 with heap:=h' }) hZ ?_;have E1':aF X.K Pr H1 (some _::some _::σ) (.d _::.d _::Z1):=E1;have E2:aF X.K Pr H1 σ Z1:=E1'.tail.tail;refine⟨s1.heap.objs.size+4,[s1.heap.objs.size+4,s1.heap.objs.size+2,s1.heap.objs.size+3,s1.heap.objs.size,s1.heap.objs.size+1],_,_,H1,_,Z1,rfl,I1.kept (t':=s1.toks) hk,Ga _ _ _ _ _ _ _ x_,⟨hZ,hTI,⟨_,_,hTO⟩,hI1,hI2⟩,λb hb=>?_,E2,Dz hz rs hz2 rs2,q1⟩
     have hb':s1.heap.objs.size<=b:=by
      simp only[UV,Wn,or_false]at hb;rcases hb with rfl|rfl|rfl|rfl|rfl
      . exact Wo _ _
      . exact Wo _ _
      . exact Wo _ _
      . exact US _
      . exact Wo _ _
     exact I1.fpOk hb' (I1.hok.fresh hb')
  . exact q1.elim
end
section
variable{X:Cx}{es:List Expr}{pos:Pos}{x:Str}
def NB(X:Cx)(es:List Expr)(n:Nat)(is:List Nat):Prop:=∃gg:Qg,Qh X es gg/\es.length=is.length/\∀vs σ H Pr Z xs k,σ.length=X.N.length->aF X.K Pr H σ Z->bO X.K H vs xs->jw is xs Z k->gg vs σ H λσ' H'=>H'=H/\σ'.drop n=σ.drop n/\∃Z',aF X.K Pr H σ' Z'/\k Z'
theorem zB{n:Nat}:NB X [] n []:=⟨_,CT,rfl,λvs σ H Pr Z xs k hl E r h=>by
 cases r with
 |nil=>exact⟨rfl,rfl,rfl,Z,E,h⟩
 |cons _ _=>exact h.elim⟩
theorem l9{i n:Nat}{is:List Nat}{x:Str}(hn:i<n)(hN:X.N.Nodup)(hi:X.N[i]?=some x)(hx:P6 X.env.scope x)(hr:NB X es n is)(hf:X.fn x=true∨X.env.scope.names.lookup x=some .local:=by first|exact .inl rfl|exact .inr rfl|assumption)
  (hs:(assignEach (.Name x pos::es) X.env).map (·.2)=assign (.Name x pos) X.env::(assignEach es X.env).map (·.2):=by rfl):NB X (.Name x pos::es) n (i::is):=by
 obtain⟨gg,hg,b0,q⟩:=hr;refine⟨_,AL (vF hN hi hx hf) hg hs,by simp[b0],λvs σ H Pr Z xs k hl E r h=>?_⟩
 cases r with
 |nil=>exact h.elim
 | cons r0 t =>
  refine⟨_,_,rfl,?_⟩;have:=q _ (σ.set i (some _)) H Pr _ _ k (by simpa using hl) ((E.cons_d r0).store (by rw[hl];exact(k5.mp hi).1)) t h;rw[List.drop_set_of_lt hn]at this;exact this
theorem DB{is:List Nat}{k n:Nat}(hc:X.calm=true)(h:NB X es n is)(hn:(assignEach es X.env).length=is.length:=by rfl)(hst:(assignEach es X.env).findIdx? (·.1)=none:=by rfl):Ra X (.Tuple es k pos) n (eY is):=by
 obtain⟨gg,hg,b0,q⟩:=h;refine⟨_,HG hc hg hn hst,λv σ H Pr Z x k hl E r h=>?_⟩
 cases r with
 |tup hs rs=>exact⟨_,_,rfl,hs,by rw[rs.length];exact nG h,q _ σ H Pr Z _ k hl E rs h⟩
 |_=>exact h.elim
end
end L2
namespace L2
open PySem PySem.Spec PyProof.Rows
mutual
noncomputable def Rl:D->Bool
 |.lst _=>false
 |.dct _=>false
 |.exc _ _ _=>false
 |.fn _ _=>false
 |.dk _ _=>false
 |.gf _=>false
 |.tup xs=>uF xs
 |_=>true
noncomputable def uF:List D->Bool
 |[]=>true
 |x::xs=>Rl x && uF xs
end
mutual
noncomputable def mJ:L->Bool
 |.un=>true
 |.d x=>Rl x
 |.own _ xs=>uF xs
 |.bx _ ls=>sS ls
 |.dic _ kvs=>kvs.all λp=>Rl p.2
noncomputable def sS:List L->Bool
 |[]=>true
 |l::ls=>mJ l && sS ls
end
theorem zC:mJ .un=true:=by simp[mJ]
theorem Mh(x:D):mJ (.d x)=Rl x:=by simp[mJ]
theorem A8(a:Addr)(xs:List D):mJ (.own a xs)=uF xs:=by simp[mJ]
theorem JE(a:Option Addr)(ls:List L):mJ (.bx a ls)=sS ls:=by simp[mJ]
theorem Gb(a:Addr)(kvs:List (PX×D)):mJ (.dic a kvs)=kvs.all λp=>Rl p.2:=by simp[mJ]
theorem DC:sS []=true:=by simp[sS]
theorem Cb(l:L)(ls:List L):sS (l::ls)=(mJ l && sS ls):=by simp[sS]
section
variable{X:Cx}{ab:List (Addr×Obj)}{σ:St}{H:Hp}{s:Shared}
theorem P7.thaw{a:Addr}{o:Obj}{xs:List V}(I:P7 X ab σ H s)(h:H a=some (.frz o (.lst xs)))(h0:∀o u,X.H₀ a≠some (.frz o u)):P7 X ab σ (PY H a (.lst xs)) s:=by
 have ne:∀b,H b=none->b≠a:=λb n e=>by subst e;rw[h]at n;cases n
 have nt:∀b xs,H b=some (.tup xs)->b≠a:=λb xs n e=>by subst e;rw[h]at n;cases n
 have no:∀b z,H b=some (.own z)->b≠a:=λb z n e=>by subst e;rw[h]at n;cases n
 have nf:∀b o,H b=some (.frz o (.own b))->b≠a:=λb o n e=>by subst e;rw[h]at n;cases n
 have nw:=(I.hok a _ h).2;refine⟨I.ok,I.os,I.bare,⟨I.base.keep,I.base.slot,λb ob e n hx=>?_,I.base.there,λb xs e=>?_,λb ob z e=>?_,λb ps e=>?_⟩,I.loc,I.cell,?_,λx c e=>?_,λp hp=>?_,λb z e=>?_,I.len⟩
 . have q:=I.base.free b ob e n hx;rw[aG (ne b q)];exact q
 . have q:=I.base.tups b xs e;rw[aG (nt b xs q)];exact q
 . have q:=I.base.frzs b ob z e;rw[aG (λy=>by subst y;exact h0 _ _ e)];exact q
 . have q:=I.base.tbls b ps e;rw[aG (λz=>by subst z;rw[h]at q;cases q)];exact q
 . rw[aG (ne _ I.free)];exact I.free
 .
  rcases I.freeC x c e with z|⟨hf,o,z⟩
  . exact .inl (by rw[aG (ne _ z)];exact z)
  . exact .inr ⟨hf,o,by rw[aG (nf _ _ z)];exact z⟩
 . obtain⟨e,n,r⟩:=I.pin p hp;exact⟨e,by rw[aG (ne _ n)];exact n,r⟩
 .
  by_cases hb:b=a
  . subst hb;rw[bC]at e;cases e;exact nw.stay (λc v _ q=>q) (λc q=>by rw[aG (no c _ q)];exact q) (λc xs q=>by rw[aG (nt c xs q)];exact q) λc ob _ _ q=>by rw[aG (nf c ob q)];exact q
  . rw[aG hb]at e;exact(I.hok b z e).stay (λc v _ q=>q) (λc q=>by rw[aG (no c _ q)];exact q) (λc xs q=>by rw[aG (nt c xs q)];exact q) λc ob _ _ q=>by rw[aG (nf c ob q)];exact q
end
def mK(H' H2:Hp)(S:List Addr):Prop:=(∀b,b∉S->H2 b=H' b)/\(∀a∈S,∃o vs,H' a=some (.frz o (.lst vs))/\H2 a=some (.lst vs))
theorem DD{X:Cx}{ab:List (Addr×Obj)}{σ:St}{s:Shared}:∀(S:List Addr){H:Hp},S.Nodup->P7 X ab σ H s->(∀a∈S,∃o vs,H a=some (.frz o (.lst vs)))->(∀a∈S,∀o u,X.H₀ a≠some (.frz o u))->∃H2,P7 X ab σ H2 s/\mK H H2 S
 |[],H,_,I,_,_=>⟨H,I,λ_ _=>rfl,λ_ h=>by simp at h⟩
 | a::S,H,nd,I,h,h0=>by
  obtain⟨na,nd⟩:=Vf.mp nd;obtain⟨o,vs,ea⟩:=h a p4;have I1:=I.thaw ea (h0 a p4)
  obtain⟨H2,I2,T1,T2⟩:=DD S nd I1 (λb hb=>by
   obtain⟨o,us,e⟩:=h b (gV _ hb)
   exact⟨o,us,by rw[aG (λz:b=a=>na (by rw[<- z];exact hb))];exact e⟩) λb hb=>h0 b (gV _ hb)
  refine⟨H2,I2,λb hb=>?_,λb hb=>?_⟩
  . rw[T1 b (λz=>hb (gV _ z)),aG (λz:b=a=>hb (by rw[z];exact p4))]
  .
   rcases UV.mp hb with rfl|hb
   . exact⟨o,vs,ea,by rw[T1 b na,bC]⟩
   . obtain⟨o',us,e1,e2⟩:=T2 b hb;rw[aG (λz:b=a=>na (by rw[<- z];exact hb))]at e1;exact⟨o',us,e1,e2⟩
section
variable{K:PySem.W.Frag}{H' H2:Hp}{S:List Addr}
mutual
theorem QM.lite{K:PySem.W.Frag}{H H':Hp}(k:∀b xs,H b=some (.tup xs)->H' b=some (.tup xs))(k2:∀b o xs,H b=some (.frz o (.tup xs))->H' b=some (.frz o (.tup xs))):∀{v:V}{d:D},Rl d=true->QM K H v d->QM K H' v d
 |_,_,_,.non=>.non
 |_,_,_,.bl b=>.bl b
 |_,_,_,.int i=>.int i
 |_,_,_,.str x=>.str x
 | _,_,h,.tup hs r=>.tup (by
   rcases hs with(e|⟨o,e⟩)|e
   .
    exact .inl (.inl (k _ _ e))
   .
    exact .inl (.inr ⟨o,k2 _ _ _ e⟩)
   .
    exact .inr e) (bO.lite k k2 (by simpa[Rl]using h) r)
 |_,_,h,.lst _ _=>nomatch h
 |_,_,h,.dct _=>nomatch h
 |_,_,h,.exc _ _ _ _ _ _ _ _=>nomatch h
 |_,_,h,.fn _ _ _ _ _ _ _ _ _=>nomatch h
 |_,_,h,.dk _ _=>nomatch h
 |_,_,h,.gf _ _ _=>nomatch h
theorem bO.lite{K:PySem.W.Frag}{H H':Hp}(k:∀b xs,H b=some (.tup xs)->H' b=some (.tup xs))(k2:∀b o xs,H b=some (.frz o (.tup xs))->H' b=some (.frz o (.tup xs))):∀{vs:List V}{ds:List D},uF ds=true->bO K H vs ds->bO K H' vs ds
 |_,_,_,.nil=>.nil
 | _,_,h,.cons r t=>by
  simp only[uF,UQ]at h
  exact .cons (QM.lite k k2 h.1 r) (bO.lite k k2 h.2 t)
end
theorem QM.thaw(T:mK H' H2 S){v:V}{d:D}(h:Rl d=true)(r:QM K H' v d):QM K H2 v d :=
 r.lite (λb xs e=>by rw[T.1 _ λz=>by obtain⟨o,vs,e1,_⟩:=T.2 _ z;rw[e1]at e;cases e];exact e) (λb u xs e=>by rw[T.1 _ λz=>by obtain⟨o,vs,e1,_⟩:=T.2 _ z;rw[e1]at e;cases e];exact e) h
theorem bO.thaw(T:mK H' H2 S){vs:List V}{ds:List D}(h:uF ds=true)(r:bO K H' vs ds):bO K H2 vs ds :=
 r.lite (λb xs e=>by rw[T.1 _ λz=>by obtain⟨o,vs,e1,_⟩:=T.2 _ z;rw[e1]at e;cases e];exact e) (λb u xs e=>by rw[T.1 _ λz=>by obtain⟨o,vs,e1,_⟩:=T.2 _ z;rw[e1]at e;cases e];exact e) h
theorem mK.lst(T:mK H' H2 S){a:Addr}{vs:List V}(h:H' a=some (.lst vs)):a∉S/\H2 a=some (.lst vs):=by
 have n:a∉S:=λz=>by obtain⟨o,us,e,_⟩:=T.2 a z;rw[h]at e;cases e
 exact⟨n,(T.1 a n).trans h⟩
theorem mK.tup(T:mK H' H2 S){a:Addr}{vs:List V}(h:Qf K H' a vs):Qf K H2 a vs:=by
 rcases h with(e|⟨u,e⟩)|e
 . exact .inl (.inl (by rw[T.1 _ λz=>by obtain⟨o,vs,e1,_⟩:=T.2 _ z;rw[e1]at e;cases e];exact e))
 . exact .inl (.inr ⟨u,by rw[T.1 _ λz=>by obtain⟨o,vs,e1,_⟩:=T.2 _ z;rw[e1]at e;cases e];exact e⟩)
 . exact .inr e
mutual
theorem a9.thaw(T:mK H' H2 S):∀{s:Option V}(l:L),mJ l=true->a9 K H' s l->a9 K H2 s l
 |_,.un,_,_=>by unfold a9;exact True.intro
 | _,.d x,h,q=>by
  unfold a9 at q ⊢
  obtain⟨v,e,r⟩:=q
  exact⟨v,e,r.thaw T (by simpa[mJ]using h)⟩
 | _,.own a xs,h,q=>by
  unfold a9 at q ⊢
  obtain⟨e,vs,ha,r⟩:=q
  exact⟨e,vs,(T.lst ha).2,r.thaw T (by simpa[mJ]using h)⟩
 | _,.bx none ls,h,q=>by
  unfold a9 at q ⊢
  obtain⟨a,vs,e,ha,r⟩:=q
  exact⟨a,vs,e,T.tup ha,cj.thaw T ls (by simpa[mJ]using h) r⟩
 | _,.bx (some a) ls,h,q=>by
  unfold a9 at q ⊢
  obtain⟨e,vs,ha,r⟩:=q
  exact⟨e,vs,(T.lst ha).2,cj.thaw T ls (by simpa[mJ]using h) r⟩
 | _,.dic a kvs,h,q=>by
  unfold a9 at q ⊢
  obtain⟨e,vs,ha,r⟩:=q
  have h':∀p∈kvs,Rl p.2=true:=by simpa[mJ]using h
  refine⟨e,vs,?_,Paired.impMem r λp hp q z=>⟨z.1,z.2.thaw T (h' p hp)⟩⟩
  rw[T.1 a λz=>by obtain⟨o,us,e1,_⟩:=T.2 _ z;rw[e1]at ha;cases ha]
  exact ha
theorem cj.thaw(T:mK H' H2 S):∀{vs:List V}(ls:List L),sS ls=true->cj K H' vs ls->cj K H2 vs ls
 |_,[],_,q=>by unfold cj at q ⊢;exact q
 | _,l::ls,h,q=>by
  unfold cj at q ⊢
  simp only[sS,UQ]at h
  obtain⟨v,us,e,h1,h2⟩:=q
  exact⟨v,us,e,a9.thaw T l h.1 h1,cj.thaw T ls h.2 h2⟩
end
end
noncomputable def oT:L->Bool
 |.d _=>true
 |l=>mJ l
theorem Gc:oT .un=true:=by simp[oT,mJ]
theorem DE(x:D):oT (.d x)=true:=rfl
theorem DF(a:Addr)(xs:List D):oT (.own a xs)=uF xs:=by simp[oT,mJ]
theorem DG(a:Addr)(kvs:List (PX×D)):oT (.dic a kvs)=kvs.all λp=>Rl p.2:=by simp[oT,mJ]
theorem Gd(a:Option Addr)(ls:List L):oT (.bx a ls)=sS ls:=by simp[oT,mJ]
noncomputable def fj(i:Nat)(Z:Ev):Bool:=(Z.set i .un).all oT
theorem vc{K:PySem.W.Frag}{H0 H' H2:Hp}{S:List Addr}(T:mK H' H2 S)(p:u5 H0 H2):∀{σ:St}{Z Z0:Ev},Z.length=Z0.length ->
  (∀(j:Nat)(l:L),Z[j]?=some l->mJ l=true∨∃x,l=.d x/\Z0[j]?=some (.d x))->Paired (a9 K H0) σ Z0->Paired (a9 K H') σ Z->Paired (a9 K H2) σ Z
 |[],[],_,_,_,_,_=>.nil
 | s::σ,l::Z,l0::Z0,hl,h,.cons q0 t0,.cons q t=>by
  refine .cons ?_ (vc T p (by simpa using hl) (λj l e=>h (j+1) l e) t0 t);rcases h 0 l rfl with hh|⟨x,rfl,e⟩
  . exact q.thaw T l hh
  .
   have e:l0=.d x:=by simpa using e
   subst e;exact q0.pres p (.d x) λa ha=>by simp[bf]at ha
 |[],_::_,_,_,_,_,t=>nomatch t
 |_::_,[],_,_,_,_,t=>nomatch t
mutual
theorem a9.lsts{K:PySem.W.Frag}{H:Hp}:∀{s:Option V}(l:L){x:D},a9 K H s l->bL l=some x->∀a∈bf l,∃vs,H a=some (.lst vs)
 |_,.un,_,_,_,a,ha=>by simp[bf]at ha
 |_,.d x,_,_,_,a,ha=>by simp[bf]at ha
 |_,.dic _ _,_,_,h,_,_=>by simp[bL]at h
 | _,.own b xs,_,h,_,a,ha=>by
  simp only[a9]at h
  have e:a=b:=by simpa[bf]using ha
  subst e
  obtain⟨_,vs,q,_⟩:=h
  exact⟨_,q⟩
 | _,.bx none ls,_,h,hx,a,ha=>by
  simp only[a9]at h
  simp only[bL,Option.map_eq_some_iff]at hx
  obtain⟨xs,hx,_⟩:=hx
  obtain⟨b,vs,e,_,r⟩:=h
  exact cj.lsts ls r hx a (by simpa[bf]using ha)
 | _,.bx (some b) ls,_,h,hx,a,ha=>by
  simp only[a9]at h
  simp only[bL,Option.map_eq_some_iff]at hx
  obtain⟨xs,hx,_⟩:=hx
  obtain⟨e,vs,q,r⟩:=h
  rcases(by simpa[bf]using ha:a=b∨a∈fW ls)with z|z
  .
   subst z;exact⟨_,q⟩
  .
   exact cj.lsts ls r hx a z
theorem cj.lsts{K:PySem.W.Frag}{H:Hp}:∀{vs:List V}(ls:List L){xs:List D},cj K H vs ls->cL ls=some xs->∀a∈fW ls,∃vs,H a=some (.lst vs)
 |_,[],_,_,_,a,ha=>by simp[fW]at ha
 | _,l::ls,_,h,hx,a,ha=>by
  simp only[cj]at h
  obtain⟨v,us,e,h1,h2⟩:=h
  simp only[cL]at hx
  split at hx
  .
   rename_i x1 xs1 e1 e2
   rcases(by simpa[fW]using ha:a∈bf l∨a∈fW ls)with z|z
   .
    exact a9.lsts l h1 e1 a z
   .
    exact cj.lsts ls h2 e2 a z
  .
   cases hx
end
theorem DH{X:Cx}{ab:List (Addr×Obj)}{σ0:St}{s s1:Shared}{Pr H H1 H':Hp}{σ τ:St}{Z lam:Ev}{i:Nat}{k:L}{x:D}{v:Option V}(I:P7 X ab σ0 H s)(E:aF X.K Pr H σ Z)(hi:Z[i]?=some k)(hSa:∀a∈bf k,∃vs,H a=some (.lst vs))(F:qK H H1 (bf k))(hfl:fj i Z=true)
  (I':P7 X ab σ0 H' s1) (E1:aF X.K Pr H1 σ (Z.set i (.d x))) (E':aF X.K (bE H1 (Z.set i (.d x))) H' (τ++σ) (lam++Z.set i (.d x))) (b0:τ.length=lam.length) (hr:lam.all mJ=true):∃H2,P7 X ab σ0 H2 s1/\aF X.K Pr H2 (τ++σ) (lam++Z):=by
 have hil:i<Z.length:=(k5.mp hi).1;have prm:=iZ hi (l:=.d x) rfl;have hnd:(bf k++owns (Z.set i (.d x))).Nodup:=prm.nodup_iff.mp E.nd;obtain⟨nd1,nd2,nd3⟩:=Vq.mp hnd;have hna:∀a∈bf k,a∉owns (Z.set i (.d x)):=λa ha z=>nd3 a ha a z rfl;have hb:∀b u,H1 b=some u->b∉owns (Z.set i (.d x))->H' b=some u:=λb u e hno=>by refine E'.sub b u ?_;unfold bE;rw[if_neg hno];exact e
 have hS:∀a∈bf k,∃o vs,H' a=some (.frz o (.lst vs)):=λa ha=>by obtain⟨vs,e⟩:=hSa a ha;obtain⟨o,eo⟩:=F.2.2 a ha vs e;exact⟨o,vs,hb a _ eo (hna a ha)⟩
 obtain⟨H2,I2,T⟩:=DD (bf k) nd1 I' hS λa ha o u e=>by have z:=I.base.frzs a o u e;obtain⟨vs,q⟩:=hSa a ha;rw[q]at z;cases z
 have back:∀a∈bf k,H2 a=H a:=λa ha=>by obtain⟨vs,e⟩:=hSa a ha;obtain⟨o,eo⟩:=F.2.2 a ha vs e;obtain⟨o',vs',e1,e2⟩:=T.2 a ha;rw[hb a _ eo (hna a ha)]at e1;cases e1;rw[e2,e]
 have P:u5 H H2:=λb u hp e=>by
  have hno:b∉owns Z:=λz=>by obtain⟨ws,hz,mu⟩:=E.at_own z;rw[hz]at e;cases e;exact mu.no hp
  have hnk:b∉bf k:=λz=>hno (prm.mem_iff.mpr (U8 _ z));rw[T.1 b hnk];exact hb b u (F.1 b u hp e) λz=>hno (prm.mem_iff.mpr (U2 _ z))
 obtain⟨sl1,sl2⟩:=Paired.unapp b0 E'.sl;have ndE:=E'.nd;rw[aK]at ndE;obtain⟨ne1,ne2,ne3⟩:=Vq.mp ndE
 have lamS:∀a∈owns lam,a∉bf k/\Pr a=none/\a∉owns (Z.set i (.d x)):=λa ha=>by
  obtain⟨vs,e,mu⟩:=E'.at_own (a:=a) (by rw[aK];exact U8 _ ha);have h1:a∉bf k:=λz=>by obtain⟨o,us,e1,_⟩:=T.2 _ z;rw[e1]at e;cases e;exact mu
  have h3:a∉owns (Z.set i (.d x)):=λz=>ne3 a ha a z rfl;refine⟨h1,?_,h3⟩;have hoff:=E'.off a (by rw[aK];exact U8 _ ha);unfold bE at hoff;rw[if_neg h3]at hoff
  cases ep:Pr a with
  |none=>rfl
  |some w=>rw[E1.sub a w ep]at hoff;cases hoff
 have slt:Paired (a9 X.K H2) σ (Z.set i .un):=by
  have q:Paired (a9 X.K H') σ (Z.set i .un):=by have:=(Paired.set_r (b:=L.un) i sl2 λ_ _=>by unfold a9;exact True.intro);rwa [Wd]at this
  refine vc T P (Z0:=Z) x_ (λj l e=>?_) E.sl q;by_cases hj:j=i
  . subst hj;rw[Vo hil]at e;cases e;exact .inl zC
  .
   have h1:=VE.mp hfl l (We (i:=j) e);rw[Vp (VB hj)]at e
   cases l with
   |un=>exact .inl zC
   |d y=>exact .inr ⟨y,rfl,e⟩
   |own b ys=>exact .inl h1
   |bx b ls=>exact .inl h1
   |dic b ls=>exact .inl h1
 have slr:Paired (a9 X.K H2) τ lam:=Paired.impMem sl1 λl hl s q=>q.thaw T l (VE.mp hr l hl);refine⟨H2,I2,λb u e=>?_,?_,λb hbm=>?_,Paired.app slr ?_⟩
 .
  have hno:b∉owns Z:=λz=>by have:=E.off b z;rw[e]at this;cases this
  have hnk:b∉bf k:=λz=>hno (prm.mem_iff.mpr (U8 _ z));rw[T.1 b hnk];refine hb b u ?_ λz=>hno (prm.mem_iff.mpr (U2 _ z));rw[F.2.1 b hnk];exact E.sub b u e
 .
  rw[aK,Vq];refine⟨ne1,E.nd,λc hc d hd z=>?_⟩;subst z;obtain⟨h1,h2,h3⟩:=lamS c hc;rcases Vg.mp (prm.mem_iff.mp hd)with z|z
  . exact h1 z
  . exact h3 z
 .
  rw[aK]at hbm;rcases Vg.mp hbm with z|z
  . exact(lamS b z).2.1
  . exact E.off b z
 .
  obtain⟨sv,hs,q⟩:=E.slot hi;have:=Paired.set_r (b:=k) i slt λs es=>by rw[hs]at es;cases es;exact q.pres P k back
  rw[Wd]at this
  have e2:Z.set i k=Z:=by
   refine List.ext_getElem? λj=>?_;by_cases hj:j=i
   . subst hj;rw[Vo hil,hi]
   . rw[Vp (VB hj)]
  rwa [e2]at this
def Rm(o:Option L)(i:Nat)(t:W L)(Z:Ev)(k4:L->Ev->Prop):Prop:=match o with
 |some (.own _ xs)=>fj i Z=true/\t (Z.set i (.d (.lst xs))) λr Z'=>mJ r=true/\Z'=Z.set i (.d (.lst xs))/\k4 r Z
 |some (.bx b ls)=>fj i Z=true/\CJ b ls λx=>t (Z.set i (.d x)) λr Z'=>mJ r=true/\Z'=Z.set i (.d x)/\k4 r Z
 |_=>t Z k4
def kN(i:Nat)(t:W L):W L:=λZ k4=>Rm Z[i]? i t Z k4
theorem JF(a:Addr)(xs:List D)(i:Nat)(t:W L)(Z:Ev)(k4:L->Ev->Prop):Rm (some (.own a xs)) i t Z k4=(fj i Z=true/\t (Z.set i (.d (.lst xs))) λr Z'=>mJ r=true/\Z'=Z.set i (.d (.lst xs))/\k4 r Z):=rfl
theorem Mi(b:Option Addr)(ls:List L)(i:Nat)(t:W L)(Z:Ev)(k4:L->Ev->Prop):Rm (some (.bx b ls)) i t Z k4=(fj i Z=true/\CJ b ls λx=>t (Z.set i (.d x)) λr Z'=>mJ r=true/\Z'=Z.set i (.d x)/\k4 r Z):=rfl
theorem NX(x:D)(i:Nat)(t:W L)(Z:Ev)(k4:L->Ev->Prop):Rm (some (.d x)) i t Z k4=t Z k4:=rfl
theorem JG{X:Cx}{ab:List (Addr×Obj)}{s:Shared}{σ:St}{H Pr:Hp}{Z:Ev}{i:Nat}{k:L}{x:D}(I:P7 X ab σ H s)(E:aF X.K Pr H σ Z)(hi:Z[i]?=some k)(hx:bL k=some x):∃H1,P7 X ab σ H1 s/\aF X.K Pr H1 σ (Z.set i (.d x))/\qK H H1 (bf k)/\∀a∈bf k,∃vs,H a=some (.lst vs):=by obtain⟨sv,hs,sl⟩:=E.slot hi;obtain⟨H1,I1,E1,F⟩:=LJ k I (E.outL hi hs) hx;have hil:i<Z.length:=(k5.mp hi).1;have E2:=E1.back (i:=i) (by rw[Vo hil]) hs;rw[Wd]at E2;exact⟨H1,I1,E2,F,sl.lsts k hx⟩
theorem eK{X:Cx}{e:Expr}(i:Nat){t:W L}(h:PL X e t):PL X e (kN i t):=by
 intro ab s σ H Pr Z k4 I E hw;have go:∀(k:L)(x:D),Z[i]?=some k->bL k=some x->fj i Z=true->(t (Z.set i (.d x)) λr Z'=>mJ r=true/\Z'=Z.set i (.d x)/\k4 r Z)->wpAny (model X.prog X.w) X.A (eval e X.env) (EL X ab σ Pr k4) X.xe s:=by intro k x hi hx hfl hw;obtain⟨H1,I1,E1,F,Sa⟩:=JG I E hi hx;refine Qb (h ab s σ _ _ _ _ I1 E1.wide hw) λu s1 ⟨v,H',r,Z',I',rv,E',hr,eρ,hp⟩=>?_;subst eρ;obtain⟨H2,I2,E2⟩:=DH (τ:=[some v]) (lam:=[r]) (v:=some v) I E hi Sa F hfl I' E1 E' rfl (by simpa using hr);exact⟨v,H2,r,Z,I2,rv,E2,hp⟩
 unfold kN Rm at hw;split at hw
 . rename_i a xs hi;exact go _ _ hi rfl hw.1 hw.2
 . rename_i b ls hi;obtain⟨x,hx,hw'⟩:=zm hw.2;exact go _ _ hi hx hw.1 hw'
 . exact h ab s σ H Pr Z k4 I E hw
def Rn(o:Option L)(i:Nat)(t:W Bool)(Z:Ev)(k4:Bool->Ev->Prop):Prop:=match o with
 |some (.own _ xs)=>fj i Z=true/\t (Z.set i (.d (.lst xs))) λr Z'=>Z'=Z.set i (.d (.lst xs))/\k4 r Z
 |some (.bx b ls)=>fj i Z=true/\CJ b ls λx=>t (Z.set i (.d x)) λr Z'=>Z'=Z.set i (.d x)/\k4 r Z
 |_=>t Z k4
theorem JH(a:Addr)(xs:List D)(i:Nat)(t:W Bool)(Z:Ev)(k4:Bool->Ev->Prop):Rn (some (.own a xs)) i t Z k4=(fj i Z=true/\t (Z.set i (.d (.lst xs))) λr Z'=>Z'=Z.set i (.d (.lst xs))/\k4 r Z):=rfl
theorem Mj(b:Option Addr)(ls:List L)(i:Nat)(t:W Bool)(Z:Ev)(k4:Bool->Ev->Prop):Rn (some (.bx b ls)) i t Z k4=(fj i Z=true/\CJ b ls λx=>t (Z.set i (.d x)) λr Z'=>Z'=Z.set i (.d x)/\k4 r Z):=rfl
theorem NY(x:D)(i:Nat)(t:W Bool)(Z:Ev)(k4:Bool->Ev->Prop):Rn (some (.d x)) i t Z k4=t Z k4:=rfl
variable{X:Cx}
variable{X:Cx}
theorem A9:∀{ns:List Int}{us:List Value},cK (ns.map V.int) us->IntsAre us ns
 |[],_,r=>by cases r;exact .nil
 | n::ns,_,r=>by
  cases r with
  | cons r0 rs =>
   obtain⟨t,rfl⟩:=r0;exact .cons n t (A9 rs)
theorem qO{K:PySem.W.Frag}{H:Hp}:∀{vs:List V}{ns:List Int},bO K H vs (ns.map D.int)->vs=ns.map V.int
 |_,[],r=>by cases r;rfl
 | _,n::ns,r=>by
  cases r with
  | cons r0 rs =>
   obtain rfl:=QM.inv_int r0;rw[qO rs];rfl
variable{X:Cx}
section
variable{X:Cx}{e a b c:Expr}{es:List Expr}{pos p p2:Pos}{ta:W L}{x y:Str}
def qP:List (QT×W L)->D->W L
 |[],_=>λ_ _=>False
 |[(o,t)],dx=>λZ k4=>t Z λy Z1=>QS y λdy=>o dx dy λr=>AR r λk=>k4 (.d (.bl k)) Z1
 |(o,t)::q::r,dx=>λZ k4=>t Z λy Z1=>QS y λdy=>o dx dy λz=>AR z λk=>if k=true then qP (q::r) dy Z1 k4 else k4 (.d (.bl false)) Z1
def vT(ta:W L)(ls:List (QT×W L)):W L:=λZ k4=>ta Z λx Z1=>QS x λdx=>qP ls dx Z1 k4
inductive sT (X:Cx):List CmpOp->List Expr->List (QT×W L)->Prop where
 |one {op:CmpOp} {e:Expr} {o:QT} {t:W L} (ho:QU X (compareOp op) o) (h:PL X e t):sT X [op] [e] [(o,t)]
 |cons {op:CmpOp} {e:Expr} {o:QT} {t:W L} {ops:List CmpOp} {es:List Expr} {ls:List (QT×W L)} (ho:QU X (compareOp op) o) (h:PL X e t) (r:sT X ops es ls):sT X (op::ops) (e::es) ((o,t)::ls)
theorem vU{op:CmpOp}{o:QT}{ab:List (Addr×Obj)}{s:Shared}{σ:St}{H Pr:Hp}{Z:Ev}{v:V}{u:Value}{dx:D}{R:Bool->D->Ev->Prop}{t:W L}{Q:Value->Value->Shared->Prop}(ho:QU X (compareOp op) o)(h:PL X e t)
  (I:P7 X ab σ H s) (rv:cq v u) (E:aF X.K Pr H (some v::σ) (.d dx::Z)) (ht:t Z λy Z1=>QS y λdy=>o dx dy λr=>AR r λk=>R k dy Z1)
  (hQ:∀u2 s3 w2 dy H3 Z1 k,P7 X ab σ H3 s3->cq w2 u2->aF X.K Pr H3 (some w2::σ) (.d dy::Z1)->R k dy Z1->Q u2 (.bool k) s3) :
  wpAny (model X.prog X.w) X.A (eval e X.env) (λb s₁=>wpAny (model X.prog X.w) X.A (compareOp op u b) (λc s₂=>Q b c s₂) X.xe s₁) X.xe s:=by
 refine Qb (h ab s σ H _ Z _ I E.tail.wide ht) λu2 s2 q=>?_;obtain⟨y,H2,dy,Z2,I2,r2,E2,q2⟩:=EL.frz (k4:=λdy Z1=>o dx dy λr=>AR r λk=>R k dy Z1) q;have E3:aF X.K Pr H2 (some y::some v::σ) (.d dy::.d dx::Z2):=aF.step (τ:=[some v]) (lam:=[.d dx]) (w:=[some y]) (μ:=[.d dy]) E rfl E2 rfl;obtain⟨_,e1,p1⟩:=E3.head_d;obtain⟨_,e2,p2⟩:=E3.tail.head_d;cases e1;cases e2;have E4:aF X.K Pr H2 σ Z2:=E3.tail.tail;have E5:aF X.K Pr H2 (some y::σ) (.d dy::Z2):=E4.cons_d p1;have E5w:=E5;refine Qb (ho ab s2 σ H2 (bE H2 Z2) Z2 v y u u2 dx dy _ I2 rv r2 E4.wide p2 p1 q2) λw s3 ⟨z,H3,r,I3,rz,E6,pp⟩=>?_;obtain⟨k,rfl,pp⟩:=sE pp;obtain⟨_,e3,p3⟩:=E6.head_d;cases e3;obtain rfl:=QM.inv_bl p3;cases rz;have P3:u5 H2 H3:=vL E4 E6.sub;have E7:aF X.K Pr H3 σ Z2:=E4.narrow E6.tail;exact hQ u2 s3 y dy H3 Z2 k I3 r2 (E7.cons_d (p1.pres P3)) pp
theorem Ge{ops:List CmpOp}{es:List Expr}{ls:List (QT×W L)}(h:sT X ops es ls):∀(ab:List (Addr×Obj))(s:Shared)(σ:St)(H Pr:Hp)(Z:Ev)(k4:L->Ev->Prop)(v:V)(u:Value)(dx:D)(pos:Pos),P7 X ab σ H s->cq v u->aF X.K Pr H (some v::σ) (.d dx::Z)->qP ls dx Z k4 ->
  wpAny (model X.prog X.w) X.A (compareChain pos u ops (evalEach es X.env)) (EL X ab σ Pr k4) X.xe s:=by
 induction h with
 | one ho h =>
  intro ab s σ H Pr Z k4 v u dx pos I rv E hl;refine chain_last ?_;exact vU (R:=λk _ Z1=>k4 (.d (.bl k)) Z1) (Q:=λ_ c s=>EL X ab σ Pr k4 c s) ho h I rv E hl λu2 s3 w2 dy H3 Z1 k I3 r3 E3 q=>⟨.bl k,H3,_,Z1,I3,rfl,E3.tail.cons_d (.bl k),q⟩
 | @cons op e o t ops es ls ho h r ih =>
  intro ab s σ H Pr Z k4 v u dx pos I rv E hl
  cases r with
  | one ho2 h2 =>
   refine chain_link (vU (R:=λk dy Z1=>if k=true then qP [_] dy Z1 k4 else k4 (.d (.bl false)) Z1) (Q:=λb c s=>wpAny (model X.prog X.w) X.A (truthy c) (λt s₃=>if t then _ else EL X ab σ Pr k4 c s₃) X.xe s) ho h I rv E hl λu2 s3 w2 dy H3 Z1 k I3 r3 E3 q=>?_)
   refine Vt ?_
   cases k with
   |false=>exact ite_ff ⟨.bl false,H3,_,Z1,I3,rfl,E3.tail.cons_d (.bl false),q⟩
   |true=>exact ite_tt (ih ab s3 σ H3 Pr Z1 k4 w2 u2 dy pos I3 r3 E3 q)
  | cons ho2 h2 r2 =>
   cases r2 with
   | one ho3 h3 =>
    refine chain_link (vU (R:=λk dy Z1=>if k=true then qP (_::_::_) dy Z1 k4 else k4 (.d (.bl false)) Z1) (Q:=λb c s=>wpAny (model X.prog X.w) X.A (truthy c) (λt s₃=>if t then _ else EL X ab σ Pr k4 c s₃) X.xe s) ho h I rv E hl λu2 s3 w2 dy H3 Z1 k I3 r3 E3 q=>?_)
    refine Vt ?_
    cases k with
    |false=>exact ite_ff ⟨.bl false,H3,_,Z1,I3,rfl,E3.tail.cons_d (.bl false),q⟩
    |true=>exact ite_tt (ih ab s3 σ H3 Pr Z1 k4 w2 u2 dy pos I3 r3 E3 q)
   | cons ho3 h3 r3 =>
    refine chain_link (vU (R:=λk dy Z1=>if k=true then qP (_::_::_) dy Z1 k4 else k4 (.d (.bl false)) Z1) (Q:=λb c s=>wpAny (model X.prog X.w) X.A (truthy c) (λt s₃=>if t then _ else EL X ab σ Pr k4 c s₃) X.xe s) ho h I rv E hl λu2 s3 w2 dy H3 Z1 k I3 r3 E3 q=>?_)
    refine Vt ?_
    cases k with
    |false=>exact ite_ff ⟨.bl false,H3,_,Z1,I3,rfl,E3.tail.cons_d (.bl false),q⟩
    |true=>exact ite_tt (ih ab s3 σ H3 Pr Z1 k4 w2 u2 dy pos I3 r3 E3 q)
theorem xP{op op':CmpOp}{ops:List CmpOp}{r1 r2:Expr}{rs:List Expr}{ls:List (QT×W L)}(ha:PL X a ta)(h:sT X (op::op'::ops) (r1::r2::rs) ls)(hm:lastMarks (op::op'::ops) (r1::r2::rs)=false:=by with_unfolding_all rfl):PL X (.Compare a (op::op'::ops) (r1::r2::rs) pos) (vT ta ls):=by intro ab s σ H Pr Z k4 I E ht;refine Compare_chain (Qb (ha ab s σ H Pr Z _ I E ht) λu s1 q=>?_) hm;obtain⟨v,H1,dx,Z1,I1,rv,E1,q1⟩:=EL.frz (k4:=λdx Z1=>qP ls dx Z1 k4) q;exact Ge h ab s1 σ H1 Pr Z1 k4 v u dx pos I1 rv E1 q1
theorem sU{prog:Program}{w:World}{A:Around}{ks:List Bool}{us:List Value}(h:us=ks.map Value.bool):TruthOf prog w A (λi v=>us.toArray[i]?=some v) (λi=>ks.getD i true):=λi v s Q E hv hQ=>by
 subst h;rw[List.getElem?_toArray,UU]at hv
 cases q:ks[i]? with
 |none=>rw[q]at hv;cases hv
 | some k =>
  rw[q]at hv;cases hv;refine Vt ?_;have:ks.getD i true=k:=by rw[UK,q];rfl
  have hQ':Q (ks.getD i true) s:=hQ;rw[this]at hQ';exact hQ'
theorem DI(ks:List Bool):(List.range ks.length).all (λi=>ks.getD i true)=ks.all id:=by
 apply VT.mpr;simp only[VE,Vd,id];constructor
 . intro h x hx;obtain⟨i,hi,e⟩:=Vu hx;have:=h i hi;rw[UK,fI hi]at this;simpa[e]using this
 . intro h i hi;rw[UK,fI hi];exact h _ (UO hi)
theorem DJ(ks:List Bool):(List.range ks.length).any (λi=>ks.getD i true)=ks.any id:=by
 apply VT.mpr;simp only[List.any_eq_true,Vd,id];constructor
 . rintro⟨i,hi,e⟩;rw[UK,fI hi]at e;exact⟨_,UO hi,e⟩
 . rintro⟨x,hx,e⟩;obtain⟨i,hi,e2⟩:=Vu hx;refine⟨i,hi,?_⟩;rw[UK,fI hi];simpa[e2]using e
theorem pY:∀{ks:List Bool}{us:List Value},cK (ks.map V.bl) us->us=ks.map Value.bool
 |[],_,.nil=>rfl
 | k::ks,_,.cons r t=>by have e:=pY t;subst e;cases r;rfl
theorem xQ(hc:X.calm=true):kG X (.builtin "all") (λxs H Q=>∃(p:Addr)(ks:List Bool),xs=[.ref p]/\Qe X.K H p (ks.map V.bl)/\Q (.bl (ks.all id)) H):=by
 intro ab s σ H xs us Q I r ⟨p,ks,e,hq,q⟩;subst e;obtain⟨u,rfl,r1⟩:=sj r;cases r1;obtain⟨its,rv,pl,hz⟩:=I.list hq;have e:=pY rv;refine call_all_walk (wpAny_pyIter_list pl.isList ?_);have hne:p≠s.heap.objs.size:=λz=>by obtain⟨o,n,eo,_⟩:=pl;have:=UR eo;rw[z]at this;exact absurd this (V5 _)
 refine⟨s.heap.objs.size,_,_,_,_,_,(λi=>ks.getD i true),rfl,Walks.list (A:=X.A.in1) (I.ok.hd hc) _ p hne its.toArray,⟨⟨_,U3 _ rfl,rfl,rfl⟩,pl.isList.at λo eo=>tu _ eo⟩,sU e,λh' tk hk=>?_⟩;have hl:its.toArray.size=ks.length:=by rw[e];simp
 rw[hl,DI];refine⟨.bl _,H,I.kept (h':=h') (t':=tk) λb o eb=>hk b o (λhm=>?_) (tu _ eb),rfl,q⟩;have e2:b=s.heap.objs.size:=by simpa using hm
 have:=UR eb;rw[e2]at this;exact absurd this (V5 _)
theorem xR(hc:X.calm=true):kG X (.builtin "any") (λxs H Q=>∃(p:Addr)(ks:List Bool),xs=[.ref p]/\Qe X.K H p (ks.map V.bl)/\Q (.bl (ks.any id)) H):=by
 intro ab s σ H xs us Q I r ⟨p,ks,e,hq,q⟩;subst e;obtain⟨u,rfl,r1⟩:=sj r;cases r1;obtain⟨its,rv,pl,hz⟩:=I.list hq;have e:=pY rv;refine call_any_walk (wpAny_pyIter_list pl.isList ?_);have hne:p≠s.heap.objs.size:=λz=>by obtain⟨o,n,eo,_⟩:=pl;have:=UR eo;rw[z]at this;exact absurd this (V5 _)
 refine⟨s.heap.objs.size,_,_,_,_,_,(λi=>ks.getD i true),rfl,Walks.list (A:=X.A.in1) (I.ok.hd hc) _ p hne its.toArray,⟨⟨_,U3 _ rfl,rfl,rfl⟩,pl.isList.at λo eo=>tu _ eo⟩,sU e,λh' tk hk=>?_⟩;have hl:its.toArray.size=ks.length:=by rw[e];simp
 rw[hl,DJ];refine⟨.bl _,H,I.kept (h':=h') (t':=tk) λb o eb=>hk b o (λhm=>?_) (tu _ eb),rfl,q⟩;have e2:b=s.heap.objs.size:=by simpa using hm
 have:=UR eb;rw[e2]at this;exact absurd this (V5 _)
theorem jD{K:PySem.W.Frag}{H:Hp}:∀{vs:List V}{ks:List Bool},bO K H vs (ks.map D.bl)->vs=ks.map V.bl
 |[],[],_=>rfl
 | _::_,k::ks,.cons r t=>by obtain rfl:=QM.inv_bl r;rw[jD t];rfl
 |[],_::_,r=>nomatch r
 |_::_,[],r=>nomatch r
def Ml:Q7:=λds k=>∃ks:List Bool,ds=[.lst (ks.map D.bl)]/\k (.d (.bl (ks.all id)))
def Mm:Q7:=λds k=>∃ks:List Bool,ds=[.lst (ks.map D.bl)]/\k (.d (.bl (ks.any id)))
theorem Mn(hc:X.calm=true):gM X (.builtin "all") Ml:=gM.of (xQ hc) λσ H Pr Z vs ds k4 E ps ⟨ks,e,h⟩=>by subst e;obtain⟨v,rfl,r⟩:=pT ps;obtain⟨_,_,rfl,hz,rs⟩:=QM.inv_lst r;have e:=jD rs;subst e;exact⟨_,ks,rfl,hz.l,_,E.cons_d (.bl _),h⟩
theorem Mo(hc:X.calm=true):gM X (.builtin "any") Mm:=gM.of (xR hc) λσ H Pr Z vs ds k4 E ps ⟨ks,e,h⟩=>by subst e;obtain⟨v,rfl,r⟩:=pT ps;obtain⟨_,_,rfl,hz,rs⟩:=QM.inv_lst r;have e:=jD rs;subst e;exact⟨_,ks,rfl,hz.l,_,E.cons_d (.bl _),h⟩
end
end L2
set_option exponentiation.threshold 2000
namespace L2
open PySem PySem.Spec PyProof.Rows
section
variable{X:Cx}{e a b c tg:Expr}{pos p:Pos}{x y:Str}
noncomputable def Ro(lo c:Int)(n:Nat):It:=⟨λi _=>i<n,λi H x H'=>H'=H/\x=.int (lo+i*c),λi _=>n<=i⟩
theorem zE{P:Program}{w:World}{K:PySem.W.Frag}{tg:Expr}(it:Addr)(lo c:Int)(n:Nat):HH P w K tg (Ro lo c n) [it] it (λi h=>IsRangeIter h it (lo+(i:Nat)*c) ((n:Int)-(i:Nat)) c) where
 mem:=by simp
 obj:=λi h st b hb=>by
  have e:b=it:=by simpa using hb
  subst e
  exact⟨_,st,λv z=>by
   have z':Data.fields _=Data.cell v:=z
   cases z'⟩
 keep:=λi h h' st k=>k it x_ _ st
 item:=by intro X hP hw hK hc i ab s σ H E I hf st hg;subst hP hw hK;obtain⟨f0,f1,f2,f3,f4,f5⟩:=hf it x_;have W:=Walks.range (prog:=X.prog) (w:=X.w) (I.ok.hd hc) it lo c n;refine W.item i s _ _ hg st λv h' tk hv st' kk=>?_;obtain⟨t,rfl⟩:=hv;have I1:P7 X ab σ H {s with heap:=h',toks:=tk}:=I.turned (λb o hb e=>kk b o (by simpa using hb) e) f0 f1 f3 f4 f5;exact⟨_,rfl,Fx (s:={s with heap:=h',toks:=tk}) (n:="range_iterator") st' rfl rfl xp ⟨.int (lo+i*c),H,I1,⟨t,rfl⟩,⟨rfl,rfl⟩,st',λb hb=>(hf b hb).1⟩⟩
 done:=by intro X hP hw hK hc i ab s σ H E I hf st hg;subst hP hw hK;obtain⟨f0,f1,f2,f3,f4,f5⟩:=hf it x_;exact wpAny_pyNext_range_end (I.ok.hd hc) st (by have:n<=i:=hg;omega) λh' eb=>⟨rfl,I.turned (t':=s.toks) (λb o hb e=>eb b o hb e) f0 f1 f3 f4 f5⟩
 self:=λ_ _ _ _ _ st h=>wpAny_pyIter_rangeiter st h
noncomputable def Ib(lo hi c:Int):Nat:=(Builtin.Range.rangeSize lo hi c).toNat
noncomputable def CL(lo c:Int)(n:Nat):List D:=(List.range n).map λ(i:Nat)=>.int (lo+(i:Int)*c)
theorem Cc{K:PySem.W.Frag}{H:Hp}(lo c:Int)(n:Nat):zp K H (Ro lo c n) (CL lo c n):=λH' p=>by
 refine⟨λi x e=>?_,?_⟩
 .
  have hi:i<n:=by have:=(k5.mp e).1;simpa[CL]using this
  refine⟨hi,λv H2 ⟨e1,e2⟩=>?_⟩;subst e1 e2;have:x=.int (lo+(i:Int)*c):=by unfold CL at e;rw[UU,VI hi]at e;simpa using e.symm
  subst this;exact⟨.inl rfl,.int _⟩
 . show n<=(CL lo c n).length;simp[CL]
def uG(j:Int):Prop:=-1000000<=j/\j<1000000
def JI(t u v:W L):W (List D):=λZ k4=>t Z λr Z1=>nH r λi=>u Z1 λr Z2=>nH r λj=>v Z2 λr Z3=>nH r λc=>uG i/\uG j/\0<c/\c<1000/\k4 (CL i c (Ib i j c)) Z3
theorem vd{lo hi c:Int}(h1:uG lo)(h2:uG hi)(h3:0<c)(h4:c<1000):0<=Builtin.Range.rangeSize lo hi c/\Builtin.Range.rangeSize lo hi c<=2000000:=by
 unfold Builtin.Range.rangeSize;rw[if_pos h3];unfold uG at h1 h2;split
 . have h5:0<=(hi-lo-1) / c:=Int.ediv_nonneg xL xL;have h6:(hi-lo-1) / c<=hi-lo-1:=Int.ediv_le_self _ xL;omega
 . omega
theorem Cd{lo hi c:Int}(h1:uG lo)(h2:uG hi)(h3:0<c)(h4:c<1000):Builtin.Range.small lo hi c=true:=by have hz:=vd h1 h2 h3 h4;unfold uG at h1 h2;unfold Builtin.Range.small;rw[if_pos h3];generalize Builtin.Range.rangeSize lo hi c=z at hz;simp only[Builtin.Range.rangeFitsLong,UQ,WK,UP,beq_iff_eq];omega
theorem Gf{t u v:W L}{p pos:Pos} (hg:Gl X "range") (hm:X.mg "range"=none) (ha:PL X a t) (hb:PL X b u) (hc':PL X c v) (hs:starEach [a,b,c] X.env=[(false,eval a X.env),(false,eval b X.env),(false,eval c X.env)]:=by rfl) (hs2:starEach [b,c] X.env=[(false,eval b X.env),(false,eval c X.env)]:=by rfl) (hs3:starEach [c] X.env=[(false,eval c X.env)]:=by rfl):Q4 X tg (.Call (.Name "range" p) [a,b,c] [] pos) (JI t u v):=by
 intro ab s σ H Pr Z k4 I E h;refine Call_ (oI I hg hm boot_range (V4 (Qb (gW ha.pe (gW hb.pe (gW hc'.pe sq hs3) (hs2.trans (by rw[hs3]))) (hs.trans (by rw[hs2])) pos ab s σ H (λvs H1=>∃(i j c:Int)(Z1:Ev),vs=[.int i,.int j,.int c]/\uG i/\uG j/\0<c/\c<1000/\aF X.K Pr H1 σ Z1/\k4 (CL i c (Ib i j c)) Z1) I ?_) λus s1 ⟨vs,H1,I1,r1,i,j,c,Z1,e,h1,h2,h3,h4,E1,q⟩=>?_) (by rw[hs,hs2]) (by rw[hs2];rfl)))
 . refine⟨Pr,Z,_,E,h,λv H' r Z' E' p=>?_⟩;obtain⟨i,rfl,p⟩:=eG p;obtain⟨_,e1,p1⟩:=E'.head_d;cases e1;obtain rfl:=QM.inv_int p1;refine⟨Pr,Z',_,E'.tail,p,λv H2 r Z2 E2 p=>?_⟩;obtain⟨j,rfl,p⟩:=eG p;obtain⟨_,e1,p1⟩:=E2.head_d;cases e1;obtain rfl:=QM.inv_int p1;refine⟨Pr,Z2,_,E2.tail,p,λv H3 r Z3 E3 p=>?_⟩;obtain⟨c,rfl,h1,h2,h3,h4,p⟩:=eG p;obtain⟨_,e1,p1⟩:=E3.head_d;cases e1;obtain rfl:=QM.inv_int p1;exact⟨i,j,c,Z3,rfl,h1,h2,h3,h4,E3.tail,p⟩
 .
  subst e
  cases r1 with
  | cons r rr =>
   cases rr with
   | cons r' rr =>
    cases rr with
    | cons r'' rr =>
     cases rr;obtain⟨t,rfl⟩:=r;obtain⟨t',rfl⟩:=r';obtain⟨t'',rfl⟩:=r'';refine call_range_3 xL ?_ (.inl (PyProof.noPylong_small xL));refine wpAny_pyIter_range (IsRange.new ..) (Cd h1 h2 h3 h4) ?_;have I2:P7 X ab σ H1 {s1 with heap:=s1.heap.push {cls:=.type "range",data:=.fields #[.int i t,.int j t',.int c t''] },toks:=s1.toks}:=I1.kept λb o e=>tu _ e
     refine⟨(s1.heap.push {cls:=.type "range",data:=.fields #[.int i t,.int j t',.int c t''] }).objs.size,[(s1.heap.push {cls:=.type "range",data:=.fields #[.int i t,.int j t',.int c t''] }).objs.size],_,_,H1,_,Z1,rfl,
      I2.kept (t':=s1.toks) λb o e=>tu _ e,zE _ i c (Ib i j c),?_,λb hb=>?_,E1,Cc i c _,q⟩
     .
      have e1:i+((0:Nat):Int)*c=i:=by simp
      have e2:((Ib i j c:Nat):Int)-((0:Nat):Int)=Builtin.Range.rangeSize i j c:=by have:=(vd h1 h2 h3 h4).1;unfold Ib;omega
      show IsRangeIter _ _ (i+((0:Nat):Int)*c) (((Ib i j c:Nat):Int)-((0:Nat):Int)) c;rw[e1,e2];exact U3 _ rfl
     .
      have e:b=(s1.heap.push {cls:=.type "range",data:=.fields #[.int i t,.int j t',.int c t''] }).objs.size:=by simpa using hb
      subst e;exact I2.fpOk (US _) (I2.hok.fresh (US _))
mutual
noncomputable def b9:D->Bool
 |.int i=>decide (i.natAbs<2^1900)
 |.tup xs=>cO xs
 |.lst xs=>cO xs
 |_=>true
noncomputable def cO:List D->Bool
 |[]=>true
 |x::xs=>b9 x && cO xs
end
theorem JJ:(2:Nat)^1900<10^600:=by decide +kernel
theorem DK{i:Int}(h:i.natAbs<2^1900):(PyData.shown (.int i)).length<=601:=by have e:=PySem.int_text_length_le10 (k:=600) xp (Nat.lt_trans h JJ);show(Str.ofString (toString i)).length<=601;rw[PySem.ofString_length];exact e
mutual
theorem jE:∀d:D,b9 d=true->(Q5 d).intsShort 601=true/\(Q5 d).showable=true
 |.non,_=>⟨rfl,rfl⟩
 |.bl _,_=>⟨rfl,rfl⟩
 |.str _,_=>⟨rfl,rfl⟩
 |.dct _,_=>⟨rfl,rfl⟩
 |.exc _ _ _,_=>⟨rfl,rfl⟩
 |.fn _ _,_=>⟨rfl,rfl⟩
 |.dk _ _,_=>⟨rfl,rfl⟩
 |.gf _,_=>⟨rfl,rfl⟩
 | .int i,h=>by
  have h':i.natAbs<2^1900:=by simpa only[b9,UP]using h
  refine⟨by simp only[Q5,PyData.intsShort,UP];exact DK h',?_⟩
  simp only[Q5,PyData.showable,UP]
  by_cases h0:i.natAbs=0
  .
   rw[h0];decide
  .
   exact(Nat.log2_lt h0).mpr (so h' (UW xp xp))
 | .tup xs,h=>by
  obtain⟨h1,h2⟩:=sV xs (by simpa only[b9]using h)
  exact⟨by simpa only[Q5,PyData.intsShort]using h1,by simpa only[Q5,PyData.showable]using h2⟩
 | .lst xs,h=>by
  obtain⟨h1,h2⟩:=sV xs (by simpa only[b9]using h)
  exact⟨by simpa only[Q5,PyData.intsShort]using h1,by simpa only[Q5,PyData.showable]using h2⟩
theorem sV:∀ds:List D,cO ds=true->PyData.intsShortAll 601 (fX ds)=true/\PyData.showableAll (fX ds)=true
 |[],_=>⟨rfl,rfl⟩
 | d::ds,h=>by
  simp only[cO,UQ]at h
  obtain⟨h1,h2⟩:=jE d h.1
  obtain⟨h3,h4⟩:=sV ds h.2
  exact⟨by simp only[fX,PyData.intsShortAll,h1,h3,Bool.and_self],by simp only[fX,PyData.showableAll,h2,h4,Bool.and_self]⟩
end
noncomputable def Mp(d:D):Str:=(Q5 d).shown
structure sW (d:D):Prop where
 ok:Ri 40 d=true
 sh:b9 d=true
 wt:(Q5 d).weight<=20000
theorem sW.len{d:D}(h:sW d):(Q5 d).shown.length<=sizeLine:=by
 have h1:=PyData.shown_le 601 xp (Q5 d) (PyData.leavesShort_of_canLay0 601 _ (iJ 40 d h.ok).1 (jE d h.sh).1);have h2:=h.wt;have e:sizeLine=16777216:=by decide
 rw[e];omega
noncomputable def Mq:D->Bool
 |.tup _=>true
 |.lst _=>true
 |_=>false
def DL:Q7:=λds k=>∃d,ds=[d]/\Mq d=true/\sW d/\k (.d (.str (Mp d)))
theorem DM{k:Nat}(hr:mv k X.A):gM X (.builtin "repr") DL:=by
 intro ab s σ H Pr Z vs us ds k4 I r E ps ⟨d,e,hq,ho,h⟩;subst e;obtain⟨v,rfl,rd⟩:=pT ps;obtain⟨u,rfl,ru⟩:=sj r;obtain⟨as,rr⟩:=jx I d v u ru rd (iJ 40 d ho.ok).1;have hdep:=(iJ 40 d ho.ok).2
 have hex:∃a,u=.ref a:=by
  cases rd with
  |tup h1 h2=>cases ru;exact⟨_,rfl⟩
  |lst h1 h2=>cases ru;exact⟨_,rfl⟩
  |_=>cases hq
 obtain⟨a,rfl⟩:=hex;refine repr_of_reads' rr (jE d ho.sh).2 (PyData.noDict_hsm (PyData.hasDict_of_canLay _ (iJ 40 d ho.ok).1)) hr.gd (by have:=hr.units;omega) (λ_ _ e=>e) (λh' t tk hk=>?_) ho.len;exact⟨.str _,H,_,I.kept (h':=h') (t':=tk) hk,⟨t,rfl⟩,E.cons_d (.str _),h⟩
def Gg:QT:=λx y k=>match x,y with
 |.str a,.str b=>k (.d (.bl (decide (a=b))))
 |_,_=>False
def Gh:QT:=λx y k=>match x,y with
 |.str a,.str b=>k (.d (.bl (!decide (a=b))))
 |_,_=>False
theorem Mr:QU X (compareOp .Eq) Gg:=QU.of NK λσ H Pr Z x y dx dy k4 E px py h=>by
 unfold Gg at h;split at h
 .
  obtain rfl:=QM.inv_str px;obtain rfl:=QM.inv_str py;rename_i a b;refine⟨rfl,_,E.cons_d (.bl _),?_⟩;have e:decide (V.str a=V.str b)=decide (a=b):=by simp
  rw[e];exact h
 . exact h.elim
theorem Ms:QU X (compareOp .NotEq) Gh:=QU.of NL λσ H Pr Z x y dx dy k4 E px py h=>by
 unfold Gh at h;split at h
 .
  obtain rfl:=QM.inv_str px;obtain rfl:=QM.inv_str py;rename_i a b;refine⟨rfl,_,E.cons_d (.bl _),?_⟩;have e:decide (V.str a=V.str b)=decide (a=b):=by simp
  rw[e];exact h
 . exact h.elim
def Rp(f:Fl)(o:Option L)(j:Nat)(Z1:Ev)(k4:Fl->Ev->Prop):Prop:=match f with
 | .nx=>(match o with
  |some (.own _ xs)=>k4 .nx (Z1.set j (.d (.lst xs)))
  |_=>k4 .nx Z1)
 |f=>k4 f Z1
theorem JK(a:Addr)(xs:List D)(j:Nat)(Z1:Ev)(k4:Fl->Ev->Prop):Rp .nx (some (.own a xs)) j Z1 k4=k4 .nx (Z1.set j (.d (.lst xs))):=rfl
theorem NZ(x:D)(j:Nat)(Z1:Ev)(k4:Fl->Ev->Prop):Rp .nx (some (.d x)) j Z1 k4=k4 .nx Z1:=rfl
end
theorem aF.closeT{K:PySem.W.Frag}{Pr H:Hp}{σ:St}{Z:Ev}{a:Addr}{vs:List V}{ls:List L}(hl:vs.length=ls.length)(h:Qf K H a vs)(E:aF K Pr H (vs.map some++σ) (ls++Z)):aF K Pr H (some (.ref a)::σ) (.bx none ls::Z):=by
 obtain⟨s1,s2⟩:=Paired.unapp (by simp[hl]) E.sl;have ow:owns (.bx none ls::Z)=owns (ls++Z):=by rw[aS,aK];simp only[bf,Option.toList,VS,eD]
 refine⟨E.sub,by rw[ow];exact E.nd,λb hb=>E.off b (by rw[<- ow];exact hb),.cons ?_ s2⟩;unfold a9;exact⟨a,vs,rfl,h,b7.mpr s1⟩
theorem aF.closeO{K:PySem.W.Frag}{Pr H:Hp}{σ:St}{Z:Ev}{a:Addr}{vs:List V}{ls:List L}(hl:vs.length=ls.length)(h:H a=some (.lst vs))(hn:a∉owns (ls++Z))(hp:Pr a=none)(E:aF K Pr H (vs.map some++σ) (ls++Z)):aF K Pr H (some (.ref a)::σ) (.bx (some a) ls::Z):=by
 obtain⟨s1,s2⟩:=Paired.unapp (by simp[hl]) E.sl;have ow:owns (.bx (some a) ls::Z)=a::owns (ls++Z):=by rw[aS,aK];simp only[bf,Option.toList,List.cons_append,VS,eD]
 refine⟨E.sub,by rw[ow];exact Vf.mpr ⟨hn,E.nd⟩,λb hb=>?_,.cons ?_ s2⟩
 .
  rw[ow]at hb;rcases UV.mp hb with z|z
  . rw[z];exact hp
  . exact E.off b z
 . unfold a9;exact⟨rfl,vs,h,b7.mpr s1⟩
section
variable{X:Cx}{e a b:Expr}{p p2 apos cpos:Pos}{tb:W L}{x y:Str}
theorem aF.updIn{K:PySem.W.Frag}{Pr H:Hp}{σ:St}{Z:Ev}{i j:Nat}{q:Option Addr}{ls:List L}{l:Addr}{xs ys:List D}{vs:List V}(E:aF K Pr H σ Z)(hi:Z[i]?=some (.bx q ls))(hj:ls[j]?=some (.own l xs))(r:bO K H vs ys) :
  aF K Pr (PY H l (.lst vs)) σ (Z.set i (.bx q (ls.set j (.own l ys)))):=by
 obtain⟨sv,hs,_⟩:=E.slot hi;have hil:i<Z.length:=(k5.mp hi).1;have hjl:j<ls.length:=(k5.mp hj).1;have E1:=E.outL hi hs;have Qd:∀{H':Hp},aF K Pr H' (sv::σ) (.bx q (ls.set j (.own l ys))::Z.set i .un)->aF K Pr H' σ (Z.set i (.bx q (ls.set j (.own l ys)))):=λE'=>by have:=E'.back (i:=i) (by simp[hil]) hs;rwa [Wd]at this
 cases q with
 | none =>
  obtain⟨a,us,rfl,ha,hl,E2⟩:=E1.openT;have E3:=E2.updOwn (i:=j) (l:=l) (xs:=xs) (ys:=ys) (vs:=vs) (by rw[U9 hjl];exact hj) r;rw[Wf _ _ hjl]at E3;obtain⟨ws,hlw,mu⟩:=E2.at_own (a:=l) (zk (xs:=xs) (We (i:=j) (by rw[U9 hjl];exact hj)));refine Qd (E3.closeT (by simpa using hl) (ha.pres λb u pu eb=>?_));rw[aG];exact eb;rintro rfl;rw[hlw]at eb;cases eb;exact mu.no pu
 | some a =>
  obtain⟨us,rfl,ha,hl,hn,hp,E2⟩:=E1.openO;have hlm:l∈owns (ls++Z.set i .un):=zk (xs:=xs) (We (i:=j) (by rw[U9 hjl];exact hj));have E3:=E2.updOwn (i:=j) (l:=l) (xs:=xs) (ys:=ys) (vs:=vs) (by rw[U9 hjl];exact hj) r;have ow:=qJ (Z:=ls++Z.set i .un) (i:=j) (a:=l) (xs:=xs) (ys:=ys) (by rw[U9 hjl];exact hj);rw[Wf _ _ hjl]at E3 ow;have hla:l≠a:=λz=>hn (by rw[<- z];exact hlm);refine Qd (E3.closeO (by simpa using hl) ?_ (by rw[ow];exact hn) hp);rw[aG (VB hla)];exact ha
theorem aF.inAt{K:PySem.W.Frag}{Pr H:Hp}{σ:St}{Z:Ev}{i j:Nat}{q:Option Addr}{ls:List L}{l:Addr}{xs:List D}(E:aF K Pr H σ Z)(hi:Z[i]?=some (.bx q ls))(hj:ls[j]?=some (.own l xs)) :
  ∃a us,σ[i]?=some (some (.ref a))/\(Qe K H a us∨Qf K H a us)/\us.length=ls.length/\us[j]?=some (.ref l)/\∃vs,H l=some (.lst vs)/\bO K H vs xs:=by
 obtain⟨sv,hs,sl⟩:=E.slot hi
 have key:∀(us:List V),cj K H us ls->us[j]?=some (.ref l)/\∃vs,H l=some (.lst vs)/\bO K H vs xs:=λus h=>by
  obtain⟨s',e,z⟩:=Paired.get2 (b7.mp h) hj;unfold a9 at z;obtain⟨rfl,vs,hl,rs⟩:=z;rw[UU]at e
  cases eu:us[j]? with
  |none=>rw[eu]at e;cases e
  |some u=>rw[eu]at e;cases e;exact⟨rfl,vs,hl,rs⟩
 cases q with
 | none =>
  unfold a9 at sl;obtain⟨a,us,rfl,ha,h⟩:=sl;exact⟨a,us,hs,.inr ha,h.len,key us h⟩
 | some a =>
  unfold a9 at sl;obtain⟨rfl,us,ha,h⟩:=sl;exact⟨a,us,hs,.inl (Qe.of ha),h.len,key us h⟩
def Mt(i:Nat)(k:Int)(Z:Ev)(K:Option Addr->List L->Nat->Addr->List D->Prop):Prop:=match Z[i]? with
 |some (.bx q ls)=>∃j,Qy ls.length k=some j/\∃l xs,ls[j]?=some (.own l xs)/\K q ls j l xs
 |_=>False
theorem Mu{i:Nat}{k:Int}{Z:Ev}{K:Option Addr->List L->Nat->Addr->List D->Prop}(h:Mt i k Z K):∃q ls j l xs,Z[i]?=some (.bx q ls)/\Qy ls.length k=some j/\ls[j]?=some (.own l xs)/\K q ls j l xs:=by
 unfold Mt at h;split at h
 . rename_i q ls hi;obtain⟨j,hj,l,xs,hl,hk⟩:=h;exact⟨q,ls,j,l,xs,hi,hj,hl,hk⟩
 . exact h.elim
theorem JL:QA X (λx y H Q=>∃p vs i w,x=.ref p/\y=.int i/\(Qe X.K H p vs∨Qf X.K H p vs)/\Qz vs i=some w/\Q w H):=by
 intro a b ab s σ H x y v u Q I rx ry h hp;obtain⟨p,vs,i,w,e1,e2,hq,hw,q⟩:=h;rcases hq with hq|hq
 . exact zg a b ab s σ H x y v u Q I rx ry ⟨p,vs,i,w,e1,e2,hq,hw,q⟩ hp
 . exact HM a b ab s σ H x y v u Q I rx ry ⟨p,vs,i,w,e1,e2,hq,hw,q⟩ hp
def Mv(i:Nat)(Z:Ev):Prop:=match Z[i]? with
 |some (.bx _ _)=>True
 |_=>False
theorem JM{i:Nat}{Z:Ev}(h:Mv i Z):∃q ls,Z[i]?=some (.bx q ls):=by
 unfold Mv at h;split at h
 . rename_i q ls e;exact⟨q,ls,e⟩
 . exact h.elim
theorem N0{α:Type}{us:List α}{n j:Nat}{k:Int}{w:α}(hn:us.length=n)(hj:Qy n k=some j)(hw:us[j]?=some w):Qz us k=some w:=by unfold Qz;rw[hn,hj];exact hw
theorem Rq{f:List D->(L->List D->Prop)->Prop}{σ:St}{H Pr:Hp}{Z:Ev}{k4:L->Ev->Prop}{i:Nat}{r0:V->List V->Hp->VK->Prop}(E:aF X.K Pr H σ Z)(h:Mv i Z/\tb Z λr Z1=>nH r λk=>Z1=Z/\Mt i k Z λq ls j l xs=>f xs λz ys=>k4 z (Z.set i (.bx q (ls.set j (.own l ys)))))
  (hr:∀(H2:Hp)(l:Addr)(vs:List V)(xs:List D)(K:L->List D->Prop)(Q:VK),H2 l=some (.lst vs)->bO X.K H2 vs xs->f xs K->(∀v z us ys,bO X.K H2 us ys->(∃d,z=.d d/\QM X.K (PY H2 l (.lst us)) v d)->K z ys->Q v (PY H2 l (.lst us)))->r0 (.ref l) [] H2 Q) :
  (OR X.K "list" r0 (Qo (λx y H Q=>∃ p vs i w,x=.ref p/\y=.int i/\(Qe X.K H p vs∨Qf X.K H p vs)/\Qz vs i=some w/\Q w H) (OL i) (tL X.K tb))) σ H λv H'=>∃ r Z',aF X.K Pr H' (some v::σ) (r::Z')/\k4 r Z':=by
 obtain⟨hbx,h⟩:=h;obtain⟨q,ls,hi⟩:=JM hbx
 obtain⟨a,hσ⟩:∃a,σ[i]?=some (some (.ref a)):=by
  obtain⟨sv,hs,sl⟩:=E.slot hi
  cases q with
  |none=>unfold a9 at sl;obtain⟨a,_,rfl,_⟩:=sl;exact⟨a,hs⟩
  |some a=>unfold a9 at sl;obtain⟨rfl,_⟩:=sl;exact⟨a,hs⟩
 refine⟨.ref a,hσ,Pr,Z,_,E,h,λv H2 r Z1 E2 pp=>?_⟩;obtain⟨k,rfl,rfl,pp⟩:=eG pp;obtain⟨_,e1,p1⟩:=E2.head_d;cases e1;obtain rfl:=QM.inv_int p1;obtain⟨q',ls',j,l,xs,hi',hj,hl,pp⟩:=Mu pp;rw[hi]at hi';cases hi';obtain⟨a',us,hσ',hsq,hul,huj,vs,hlv,rs⟩:=E2.tail.inAt hi hl;rw[hσ]at hσ';cases hσ';refine⟨a,us,k,.ref l,rfl,rfl,hsq,N0 hul hj huj,.inl ⟨rfl,vs,Qe.of hlv⟩,?_⟩;refine hr H2 l vs xs _ _ hlv rs pp λv z ws ys rw' ⟨d,ez,rz⟩ hk=>?_;subst ez;exact⟨_,_,(E2.tail.updIn hi hl rw').cons_d rz,hk⟩
def rS(i:Nat)(tk:W L):W L:=λZ k4=>Mv i Z/\tk Z λr Z1=>nH r λk=>Z1=Z/\Mt i k Z λq ls j l _=>k4 (.d .non) (Z.set i (.bx q (ls.set j (.own l []))))
theorem ve(i:Nat)(hb:PL X b tb)(hp:vG b)(hN:X.N[i]?=some x:=by rfl)(hv:P5 X.env.scope x:=by first | exact Or.inl rfl | exact Or.inr (Or.inl rfl) | exact Or.inr (Or.inr rfl)) (hd:(x == ("__debug__" : Str))=false:=by decide)
  (hcd:(x == ("__classdict__" : Str))=false:=by decide) (hbase:attributeBase (.Subscript (.Name x p) b p2) "clear" X.env (eval (.Subscript (.Name x p) b p2) X.env)=eval (.Subscript (.Name x p) b p2) X.env:=by rfl)
  (hline:(apos.endLine == cpos.line)=true:=by rfl):PL X (.Call (.Attribute (.Subscript (.Name x p) b p2) "clear" apos) [] [] cpos) (rS i tb):=by
 refine PL.of (LA PySem.F.plainAttrs_list PySem.F.slot_list_clear PySem.F.type_list_clear FI (Lx JL (ke hN hv hd hcd) hb.pe hp) (hbase:=hbase) (hline:=hline)) λσ H Pr Z k4 E h=>?_;refine Rq (f:=λ_ K=>K (.d .non) []) E h λH2 l vs xs K Q hl rs hf hk=>?_;exact⟨l,vs,rfl,rfl,hl,hk .non (.d .non) [] [] .nil ⟨.non,rfl,.non⟩ hf⟩
end
structure FX (K:PySem.W.Frag) (mg:Str->Option Value) (g:Str) (st:Stmt) (a:Addr) (fd:FuncData) (P:List Str):Prop where
 f:QK K g g st a fd
 b:zd K fd P []
 m:mg g=some (.ref a)
noncomputable abbrev Rr(g:Str)(st:Stmt)(md:Value)(c:Nat):FuncData:=PySem.W.fnOf g g (pR st) (gA st) (au st) .none .none .none md none (.ref c) .none
theorem FX.mk'{K:PySem.W.Frag}{mg:Str->Option Value}{h:Heap}(X:K.In h)(G:h.Ns mainGlobals mg){g:Str}{st:Stmt}{a:Addr}{c:Nat}{md:Value}{P:List Str}(e1:PySem.W.nsIn K mainGlobals g=some (some (.ref a)))
  (e2:K.lookup a=some ⟨.type "function",none,.func (Rr g st md c),#[]⟩) (e3:PySem.W.codeIn K (.ref c) g=true) (e4:PySem.W.keepIn K (.ref a)=true)
  (e5:∀(kV doc pm:Value)(an:Option Addr)(cdv ct:Value)(us:List Value),us.length=P.length->bindArgs (PySem.W.fnOf g g (pR st) (gA st) (au st) .none kV doc pm an cdv ct) ⟨us,[]⟩=pure (P.zip us)):FX K mg g st a (Rr g st md c) P :=
 ⟨HQ e2 e3 e4,(HQ e2 e3 e4).binds e5,PySem.W.mg_of X G e1⟩
section
variable{X:Cx}{k k' n:Nat}{f:Addr}{fd:FuncData}{ps:List Str}{fs:FS}{g:Str}{st:Stmt}{e:Expr}{es:List Expr}{bs:List (Option Nat)}{t:W (List L)}{p pos:Pos}
theorem aL(F:FnOk X.prog X.w X.K X.mg X.base CX0 k f fd ps (spF X.K n fs))(T:FX X.K X.mg g st f fd ps)(hr:mv k' X.A)(ha:QO X (e::es) bs t)(hk:k<=k':=by decide)(hg:Gl X g:=by rfl)(hn:bs.length=n:=by rfl) (hdb:(g == ("__debug__" : Str))=false:=by decide) (he:starEach (e::es) X.env=(false,eval e X.env)::starEach es X.env:=by rfl) (hpl:(backTo pos (starEach es X.env)).any (·.1)=false:=by rfl) :
  PL X (.Call (.Name g p) (e::es) [] pos) (aI fs t):=Ji F (hr.mono hk) hg T.m T.f.kp T.b LF ha hn hdb he hpl
theorem cP(F:FnOk X.prog X.w X.K X.mg X.base CX0 k f fd ps (spF X.K n fs))(T:FX X.K X.mg g st f fd ps)(hr:mv k' X.A)(j i:Nat)(ha:QO X (e::es) bs t)(hk:k<=k':=by decide)(hg:Gl X g:=by rfl)(hj:bs[j]?=some (some i):=by rfl)(hn:bs.length=n:=by rfl) (hdb:(g == ("__debug__" : Str))=false:=by decide) (he:starEach (e::es) X.env=(false,eval e X.env)::starEach es X.env:=by rfl) (hpl:(backTo pos (starEach es X.env)).any (·.1)=false:=by rfl) :
  PL X (.Call (.Name g p) (e::es) [] pos) (b8 fs j i t):=FU F (hr.mono hk) hg T.m T.f.kp T.b LF j i ha hj hn hdb he hpl
end
section
variable{X:Cx}
theorem Gi:Qm X (binaryOp .Add) (λx y H Q=>∃l b xs zs,x=.ref l/\y=.ref b/\Qf X.K H l xs/\Qf X.K H b zs/\xs≠[]/\zs≠[]/\xs.length+zs.length<=sizeLine/\∀p,H p=none->Q (.ref p) (PY H p (.tup (xs++zs)))):=by
 intro ab s σ H x y v u Q I rx ry h;obtain⟨l,b,xs,zs,rfl,rfl,hH,hB,n1,n2,hz,q⟩:=h;cases rx;cases ry;obtain⟨its,r,⟨o,e,c,n,f⟩,z⟩:=I.tuple hH;obtain⟨its2,r2,⟨o2,e2,c2,m,f2⟩,z2⟩:=I.tuple hB;obtain⟨cl,dd,dt,sl⟩:=o;obtain⟨cl2,dd2,dt2,sl2⟩:=o2;simp only at c f c2 f2;subst c f c2 f2;have hl:=r.length;have hl2:=r2.length;have k1:its≠[]:=λe=>n1 (Wi.mp (by rw[hl,e];rfl));have k2:its2≠[]:=λe=>n2 (Wi.mp (by rw[hl2,e];rfl));refine concat_meets ⟨_,e,rfl⟩ ⟨_,e2,rfl⟩ noFill_tuple_add seq_tuple_add PySem.F.slot_tuple_add PySem.F.entry_tuple_add (PySem.F.args_tuple_add_2 _ _) (tuple_addW2 l b its.toArray its2.toArray n m dd dd2 sl sl2 (by simpa using k1) (by simpa using k2) (by rw[UZ,UZ];omega)) ⟨e,e2,?_⟩;have ea:its.toArray++its2.toArray=(its++its2).toArray:=by simp
 rw[ea];exact⟨.ref _,PY H s.heap.objs.size (.tup (xs++zs)),I.laid (o:=.tup (xs++zs)) (λ_ _ q=>tu _ q) (US _) ⟨by rw[Vk];omega,its++its2,r.append r2,⟨_,U3 _ rfl,rfl,_,rfl⟩⟩,rfl,q _ I.fresh⟩
def Ba:QT:=λx y k=>match x,y with
 |.tup xs,.tup ys=>xs≠[]/\ys≠[]/\xs.length+ys.length<=sizeLine/\k (.d (.tup (xs++ys)))
 |_,_=>False
theorem JN:QU X (binaryOp .Add) Ba:=(QU.of Gi (op:=λx y k=>∃xs ys,x=.tup xs/\y=.tup ys/\xs≠[]/\ys≠[]/\xs.length+ys.length<=sizeLine/\k (.d (.tup (xs++ys)))) (λσ H Pr Z x y dx dy k4 E px py ⟨xs,ys,e1,e2,m1,m2,z,h⟩=>by
  subst e1 e2;obtain⟨_,_,rfl,h1,r1⟩:=QM.inv_tup px
  cases py with
  | tup h2 r2 =>
   refine⟨_,_,_,_,rfl,rfl,h1,h2,λe=>m1 ?_,λe=>m2 ?_,by rw[r1.length,r2.length];exact z,λp hp=>⟨_,E.cons_tup hp (r1.append r2),h⟩⟩
   . exact Wi.mp (by rw[<- r1.length,e];rfl)
   .
    exact Wi.mp (by rw[<- r2.length,e];rfl))).imp λx y k h=>by
 unfold Ba at h;split at h
 . exact⟨_,_,rfl,rfl,h⟩
 . exact h.elim
def N1:QT:=λx y k=>match x,y with
 |.bl b,.bl c=>k (.d (.bl (b == c)))
 |_,_=>False
def DN:QT:=λx y k=>match x,y with
 |.bl b,.bl c=>k (.d (.bl (!(b == c))))
 |_,_=>False
theorem JO:QU X (compareOp .IsNot) DN:=by
 intro ab s σ H Pr Z x y v u dx dy k4 I rx ry E px py ho
 cases px with
 | bl b =>
  cases py with
  | bl c =>
   cases rx;cases ry;exact isnot_bool ⟨.bl (!(b == c)),H,.d (.bl (!(b == c))),I,rfl,E.cons_d (.bl _),ho⟩
  |_=>exact ho.elim
 |_=>cases py<;>exact ho.elim
end
mutual
noncomputable def Bb:D->Nat
 |.tup xs=>zF xs+1
 |.lst xs=>zF xs+1
 |_=>0
noncomputable def zF:List D->Nat
 |[]=>0
 |x::xs=>max (Bb x) (zF xs)
end
theorem Bc{n:Nat}:∀{xs:List D},(∀x∈xs,Bb x<=n)->zF xs<=n
 |[],_=>Vv _
 | y::ys,h=>by simp only[zF];have:=h y p4;have:=Bc (xs:=ys) λx hx=>h x (gV _ hx);omega
end L2
namespace L2
open PySem PySem.Spec PyProof.Rows PySem.Builtin.Str
inductive Sk where
 |l|t
noncomputable abbrev Zi:=Sk×Addr×Addr
noncomputable def Zi.ofs(js:List Zi):List Addr:=js.map (·.2.1)
def Mw(z O:Addr)(js:List Zi)(h h':Heap):Prop:=∀c o,c∉z::O::Zi.ofs js->h.get? c=some o->h'.get? c=some o
noncomputable def Sk.nm:Sk->String
 |.l=>"list_iterator"
 |.t=>"tuple_iterator"
def Rt(K:PySem.W.Frag)(H:Hp):Sk->Addr->List V->Prop
 |.l,a,xs=>Qe K H a xs
 |.t,a,xs=>Qf K H a xs
def Ru(K:PySem.W.Frag)(H:Hp):Sk->Addr->List V->Prop
 |.l,a,xs=>QL K H a xs
 |.t,a,xs=>Qf K H a xs
theorem Ru.pres{K:PySem.W.Frag}{H H':Hp}{k:Sk}{a:Addr}{xs:List V}(p:u5 H H')(h:Ru K H k a xs):Rt K H' k a xs:=by
 cases k with
 |l=>exact(QL.pres p h).l
 |t=>exact Qf.pres p h
section
variable{z O:Addr}{js:List Zi}
theorem Mw.mono{h h':Heap}(k:Mw z O js h h'){c:Addr}{o:Obj}(hc:c∉z::O::Zi.ofs js)(e:h.get? c=some o):h'.get? c=some o:=k c o hc e
end
end L2
namespace L2
open PySem PySem.Spec PyProof.Rows
section
variable{X:Cx}{e:Expr}{pos:Pos}{t:W Fl}
theorem Mx{body:List Stmt}{h0:ExceptHandler}{hs:List ExceptHandler}(hx:∀e s,X.xe e s->False)(hb:QR X body t):PM X (.Try body (h0::hs) [] [] pos) t:=λab s σ H Pr Z k4 I E ht =>
 wpAny_Try_except (V7 (hb ab s σ H Pr Z k4 I E ht) (λf s1 q=>by
  cases f with
  |next=>exact wpAny_execs_nil q
  |brk=>exact q
  |cont=>exact q
  |ret v=>exact q) λe s z=>(hx e s z).elim)
end
end L2
namespace L2
open PySem PySem.Spec PyProof.Rows PySem.W
section
structure Rv (h:Heap) (e:Addr) (cls:Value) (dx T:Option Addr):Prop where
 ex:∃vs sl,h.get? e=some ⟨cls,dx,.fields vs,sl⟩/\1<vs.size/\(match T with
  |none=>vs[1]?=some .none
  |some t=>vs[1]?=some (.ref t)/\t≠e/\∃ot ts,h.get? t=some ot/\ot.data=.fields ts/\ts[3]?=some .none)
end
noncomputable def Rw(H:Hp)(e:Addr):Hp:=λb=>if b=e then none else H b
theorem qQ{H:Hp}{e b:Addr}(h:b≠e):Rw H e b=H b:=by unfold Rw;rw[if_neg h]
theorem Bd{H:Hp}{e:Addr}:Rw H e e=none:=by unfold Rw;rw[if_pos rfl]
section
variable{X:Cx}{ab:List (Addr×Obj)}{σ:St}{H:Hp}{s:Shared}
theorem P7.track{e:Addr}{o:HO}(I:P7 X ab σ H s)(hn:H e=none)(h0:X.s₀.heap.objs.size<=e)(hL:e≠X.env.locals)(hc:∀x c,X.env.cells.lookup x=some c->c≠e)(hp:∀p∈X.pn++ab,p.1≠e)
  (new:iH X.prog X.w (PY H e o) s.heap e o):P7 X ab σ (PY H e o) s:=by
 have ne:∀b u,H b=some u->b≠e:=λb u q z=>by subst z;rw[hn]at q;cases q
 refine⟨I.ok,I.os,I.bare,⟨I.base.keep,I.base.slot,λb u e1 n hx=>?_,I.base.there,λb xs q=>?_,λb u z q=>?_,λb ps q=>?_⟩,I.loc,I.cell,?_,λx c q=>?_,λp hq=>?_,λb u q=>?_,I.len⟩
 . rw[aG (λz=>by subst z;exact absurd (UR e1) (Nat.not_lt.mpr h0))];exact I.base.free b u e1 n hx
 . have z:=I.base.tups b xs q;rw[aG (ne b _ z)];exact z
 . have z:=I.base.frzs b _ _ q;rw[aG (ne b _ z)];exact z
 . have z:=I.base.tbls b ps q;rw[aG (ne b _ z)];exact z
 . rw[aG (VB hL)];exact I.free
 . rw[aG (hc x c q)];exact I.freeC x c q
 . obtain⟨a1,a2,a3⟩:=I.pin p hq;exact⟨a1,by rw[aG (hp p hq)];exact a2,a3⟩
 .
  by_cases hb:b=e
  . subst hb;rw[bC]at q;cases q;exact new
  . rw[aG hb]at q;exact(I.hok b u q).stay (λc v _ z=>z) (λc z=>by rw[aG (ne c _ z)];exact z) (λc xs z=>by rw[aG (ne c _ z)];exact z) λc ob _ _ z=>by rw[aG (ne c _ z)];exact z
end
section
variable{K:Frag}{Pr H H':Hp}{σ:St}{Z:Ev}
theorem aF.exten(E:aF K Pr H σ Z)(h:∀b o,H b=some o->H' b=some o):aF K Pr H' σ Z :=
 ⟨λb o e=>h b o (E.sub b o e),E.nd,E.off,Paired.impMem E.sl λl hl s q=>q.pres (λb u _ e=>h b u e) l λa e=>by
  obtain⟨vs,e,_⟩:=E.at_own (jq.mpr ⟨l,hl,e⟩)
  rw[h _ _ e,e]⟩
end
theorem Rv.at{h h':Heap}{e:Addr}{cls:Value}{dx:Option Addr}(f:Rv h e cls dx none)(k:∀o,h.get? e=some o->h'.get? e=some o):Rv h' e cls dx none:=by obtain⟨vs,sl,he,hz,h1⟩:=f;exact⟨vs,sl,k _ he,hz,h1⟩
noncomputable def XO(e:Addr)(cls:Value)(dx:Option Addr):HO:=.ext λh=>Rv h e cls dx none
noncomputable def XD(d:Addr)(fs:List (Str×V)):HO:=.ext λh=>∃mA,h.Ns1 d mA/\(∀f,Nv (fs.lookup f) (mA f))/\PySem.Within mA (fs.map (·.1))
theorem XO.ok{P:Program}{w:World}{H:Hp}{h:Heap}{e:Addr}{cls:Value}{dx:Option Addr}(f:Rv h e cls dx none):iH P w H h e (XO e cls dx):=by obtain⟨vs,sl,he,hz,h1⟩:=f;exact⟨⟨vs,sl,he,hz,h1⟩,⟨_,he⟩,λh1 h2 p k=>p.at k⟩
theorem XD.ok{P:Program}{w:World}{H:Hp}{h:Heap}{d:Addr}{fs:List (Str×V)}{mA:Str->Option Value}(n:h.Ns1 d mA)(r:∀f,Nv (fs.lookup f) (mA f))(wi:PySem.Within mA (fs.map (·.1))):iH P w H h d (XD d fs) :=
 ⟨⟨mA,n,r,wi⟩,let ⟨o,_,_,e,_⟩:=n;⟨o,e⟩,λh1 h2 ⟨mA,n,r⟩ k=>⟨mA,n.at k,r⟩⟩
structure Xc where
 c:Str
 ns:List Str
 ds:List D
def N4(K:Frag)(H:Hp)(cls:Value)(dx:Option Addr)(x:Xc):Prop:=∃C vs,cls=.ref C/\u4 K x.c C=true/\(∀f∈x.ns,findIn K (.ref C) f=some none)/\XF H dx x.ns vs/\bO K H vs x.ds
theorem N4.ext{K:Frag}{H H':Hp}{cls:Value}{dx:Option Addr}{x:Xc}(f:N4 K H cls dx x)(h:∀b o,H b=some o->H' b=some o):N4 K H' cls dx x:=by obtain⟨C,vs,e,s,fq,a,r⟩:=f;exact⟨C,vs,e,s,fq,a.pres λb o _ q=>h b o q,r.pres λb o _ q=>h b o q⟩
section
variable{X:Cx}{ab:List (Addr×Obj)}{σ:St}{H:Hp}{s:Shared}
theorem PZ.there{P:Program}{w:World}{H:Hp}{h:Heap}(x:PZ P w H h){b:Addr}{o:HO}(e:H b=some o):∃u,h.get? b=some u:=by
 have lt:=x.lt e
 cases o with
 |lst xs=>obtain⟨_,_,_,_,e⟩:=x b _ e;exact⟨_,e⟩
 |tup xs=>obtain⟨_,_,_,o,e,_⟩:=x b _ e;exact⟨_,e⟩
 |dK kvs=>obtain⟨_,_,_,_,o,_,_,e,_⟩:=x b _ e;exact⟨_,e⟩
 |dT kvs=>obtain⟨_,_,_,_,o,_,_,e,_⟩:=x b _ e;exact⟨_,e⟩
 |set S n=>obtain⟨o,_,_,_,e,_⟩:=x b _ e;exact⟨_,e⟩
 |ins C dx fs=>obtain⟨_,_,_,e,_⟩:=x b _ e;exact⟨_,e⟩
 |own y=>obtain⟨_,e⟩:=x b _ e;exact⟨_,e⟩
 |xd fs=>obtain⟨_,⟨_,_,_,e,_⟩,_⟩:=x b _ e;exact⟨_,e⟩
 |rng lo hi=>obtain⟨_,_,_,e⟩:=x b _ e;exact⟨_,e⟩
 |frz ob u=>obtain⟨e,_⟩:=x b _ e;exact⟨_,e⟩
 |tbl t=>obtain⟨_,e,_⟩:=x b _ e;exact⟨_,e⟩
 |met f y=>exact⟨_,(show h.get? b=some _ from x b _ e)⟩
 |ext φ=>obtain⟨_,⟨_,e⟩,_⟩:=x b _ e;exact⟨_,e⟩
structure Rx (X:Cx) (ab:List (Addr×Obj)) (b:Addr):Prop where
 s0:X.s₀.heap.objs.size<=b
 loc:b≠X.env.locals
 cel:∀x c,X.env.cells.lookup x=some c->c≠b
 pin:∀p∈X.pn++ab,p.1≠b
theorem P7.newer(I:P7 X ab σ H s){b:Addr}(h:s.heap.objs.size<=b):Rx X ab b:=by
 refine⟨UT I.sz h,λz=>?_,λx c e z=>?_,λp hp z=>?_⟩
 . have:=I.lt;rw[<- z]at this;exact absurd this (Nat.not_lt.mpr h)
 . obtain⟨v,o,ho,_⟩:=I.cell x c e;have:=UR ho;rw[z]at this;exact absurd this (Nat.not_lt.mpr h)
 . have:=UR (I.pin p hp).1;rw[z]at this;exact absurd this (Nat.not_lt.mpr h)
end
abbrev Ry:=List D->(L->Prop)->(Xc->Prop)->Prop
theorem aF.ds{K:Frag}{H:Hp}:∀{vs:List V}{ds:List D},bO K H vs ds->Paired (a9 K H) (vs.map some) (ds.map .d)
 |_,_,.nil=>.nil
 |_,_,.cons h t=>.cons ⟨_,rfl,h⟩ (aF.ds t)
end L2
namespace L2
open PySem PySem.Spec PyProof.Rows
section
variable{κ:Type}[DecidableEq κ]
theorem KV.any{kvs:List (κ×V)}{vs:List (κ×Value)}(r:KV kvs vs)(k:κ):(kvs.any λkv=>decide (kv.1=k))=vs.any λkv=>decide (kv.1=k):=by
 unfold KV at r
 induction r with
 |nil=>rfl
 |cons h t ih=>rw[Wc,Wc,ih,h.1]
theorem KV.length{kvs:List (κ×V)}{vs:List (κ×Value)}(r:KV kvs vs):kvs.length=vs.length:=Paired.length r
end
theorem Mz{P:Program}{w:World}{k:PX}{u:Value}(r:cq (kV k) u):(pP P w).is k u=true:=by
 cases k with
 |inl i=>obtain⟨t,e⟩:=(show ∃t,u=Value.int i t from r);subst e;exact y7 P w i t
 |inr x=>obtain⟨t,e⟩:=(show ∃t,u=Value.str x t from r);subst e;exact za P w x t
abbrev DR(K:PySem.W.Frag)(H:Hp):List (PX×V)->List (PX×D)->Prop:=Paired λ(p:PX×V) (q:PX×D)=>p.1=q.1/\QM K H p.2 q.2
theorem DR.any{K:PySem.W.Frag}{H:Hp}{k:PX}:∀{vs:List (PX×V)}{kvs:List (PX×D)},DR K H vs kvs->(vs.any λp=>decide (p.1=k))=kvs.any λp=>decide (p.1=k)
 |_,_,.nil=>rfl
 |p::vs,q::kvs,.cons h t=>by rw[Wc,Wc,DR.any t,h.1]
theorem DR.pres{K:PySem.W.Frag}{H H':Hp}(p:u5 H H'){vs:List (PX×V)}{kvs:List (PX×D)}(h:DR K H vs kvs):DR K H' vs kvs:=Paired.mapP h λ_ _ z=>⟨z.1,z.2.pres p⟩
section
variable{X:Cx}{pos:Pos}
noncomputable def flatC:D->Bool
 |.int _=>true
 |.str _=>true
 |.bl _=>true
 |.non=>true
 |_=>false
theorem QM.flatC{K:PySem.W.Frag}{H H':Hp}{v:V}{d:D}(h:L2.flatC d=true)(r:QM K H v d):QM K H' v d:=by
 cases r with
 |int i=>exact .int i
 |str i=>exact .str i
 |bl i=>exact .bl i
 |non=>exact .non
 |_=>cases h
inductive Rz (X:Cx):List (Option Expr)->List Expr->List (PX×D)->Prop where
 |nil:Rz X [] [] []
 |int {k v:Expr} {ks:List (Option Expr)} {vs:List Expr} {i:Int} {d:D} {kvs:List (PX×D)} (hk:PL X k (wC (.int i))) (hv:PL X v (wC d)) (hf:flatC d=true) (t:Rz X ks vs kvs):Rz X (some k::ks) (v::vs) ((.inl i,d)::kvs)
 |str {k v:Expr} {ks:List (Option Expr)} {vs:List Expr} {y:Str} {d:D} {kvs:List (PX×D)} (hk:PL X k (wC (.str y))) (hv:PL X v (wC d)) (hf:flatC d=true) (t:Rz X ks vs kvs):Rz X (some k::ks) (v::vs) ((.inr y,d)::kvs)
theorem Rz.run{pos:Pos}{ab:List (Addr×Obj)}{σ:St}{Pr:Hp}{Z:Ev}:∀{ks:List (Option Expr)}{vs:List Expr}{kvs:List (PX×D)},Rz X ks vs kvs->∀{H:Hp}{s:Shared}{Q:List (Value×Value)->Shared->Prop},P7 X ab σ H s->aF X.K Pr H σ Z ->
  (∀(H':Hp)(s':Shared)(us:List (Value×Value))(ps:List (PX×V))(qs:List (PX×Value)),P7 X ab σ H' s'->aF X.K Pr H' σ Z->Carries (pP X.prog X.w) us qs->KV ps qs->DR X.K H' ps kvs->Q us s') ->
  wpAny (model X.prog X.w) X.A (evalPairs (pairTrees ks vs X.env pos)) Q X.xe s
 |_,_,_,.nil,H,s,Q,I,E,h=>pairTrees_nil_walk (h H s [] [] [] I E True.intro .nil .nil)
 | _,_,_,.int (d:=d) hk hv hf t,H,s,Q,I,E,h=>by refine pairTrees_cons_walk (Qb (hk ab s σ H Pr Z (λr Z'=>r=.d _/\Z'=Z) I E ⟨rfl,rfl⟩) λu s1 ⟨v,H1,r,Z',I1,rv,E1,e1,e2⟩=>?_);subst e1 e2;refine Qb (hv ab s1 σ H1 Pr _ (λr Z'=>r=.d d/\Z'=_) I1 E1.tail ⟨rfl,rfl⟩) λu2 s2 ⟨v2,H2,r2,Z2,I2,rv2,E2,e1,e2⟩=>?_;subst e1 e2;obtain⟨_,z1,p1⟩:=E1.head_d;cases z1;obtain rfl:=QM.inv_int p1;obtain⟨_,z2,p2⟩:=E2.head_d;cases z2;exact Rz.run t I2 E2.tail λH' s' us ps qs I3 E3 hc hk3 hd=>h H' s' ((u,u2)::us) ((.inl _,v2)::ps) ((.inl _,u2)::qs) I3 E3 ⟨Mz rv,rfl,hc⟩ (.cons ⟨rfl,rv2⟩ hk3) (.cons ⟨rfl,p2.flatC hf⟩ hd)
 | _,_,_,.str (d:=d) hk hv hf t,H,s,Q,I,E,h=>by refine pairTrees_cons_walk (Qb (hk ab s σ H Pr Z (λr Z'=>r=.d _/\Z'=Z) I E ⟨rfl,rfl⟩) λu s1 ⟨v,H1,r,Z',I1,rv,E1,e1,e2⟩=>?_);subst e1 e2;refine Qb (hv ab s1 σ H1 Pr _ (λr Z'=>r=.d d/\Z'=_) I1 E1.tail ⟨rfl,rfl⟩) λu2 s2 ⟨v2,H2,r2,Z2,I2,rv2,E2,e1,e2⟩=>?_;subst e1 e2;obtain⟨_,z1,p1⟩:=E1.head_d;cases z1;obtain rfl:=QM.inv_str p1;obtain⟨_,z2,p2⟩:=E2.head_d;cases z2;exact Rz.run t I2 E2.tail λH' s' us ps qs I3 E3 hc hk3 hd=>h H' s' ((u,u2)::us) ((.inr _,v2)::ps) ((.inr _,u2)::qs) I3 E3 ⟨Mz rv,rfl,hc⟩ (.cons ⟨rfl,rv2⟩ hk3) (.cons ⟨rfl,p2.flatC hf⟩ hd)
theorem Rz.len:∀{ks:List (Option Expr)}{vs:List Expr}{kvs:List (PX×D)},Rz X ks vs kvs->ks.all (·.isSome)=true/\ks.length=vs.length/\ks.length=kvs.length
 |_,_,_,.nil=>⟨rfl,rfl,rfl⟩
 | _,_,_,.int _ _ _ t=>by obtain⟨h1,h2,h3⟩:=t.len;simp[h1,h2,<- h3]
 | _,_,_,.str _ _ _ t=>by obtain⟨h1,h2,h3⟩:=t.len;simp[h1,h2,<- h3]
end
end L2
namespace L2
open PySem PySem.Spec PyProof.Rows PySem.SeqAt
mutual
noncomputable def Be:Nat->D->Bool
 |_,.non=>true
 |_,.bl _=>true
 |_,.int _=>true
 |_,.str _=>true
 |n+1,.tup xs=>zG n xs
 |n+1,.lst xs=>zG n xs
 |n+1,.dct m=>m == 0
 |_,_=>false
noncomputable def zG:Nat->List D->Bool
 |_,[]=>true
 |n,x::xs=>Be n x && zG n xs
end
mutual
noncomputable def xS:D->Nat
 |.int _=>602
 |.str x=>10*x.length+2
 |.tup xs=>sX xs+3
 |.lst xs=>sX xs+3
 |_=>6
noncomputable def sX:List D->Nat
 |[]=>0
 |x::xs=>xS x+2+sX xs
end
mutual
theorem Bf:∀d:D,(Q5 d).leavesShort 601=true->(Q5 d).shown.length<=xS d
 |.non,_=>by decide
 |.bl b,_=>by cases b<;>decide
 | .int i,h=>by
  have e:(PyData.shown (.int i)).length<=601:=by simpa only[Q5,PyData.leavesShort,UP]using h
  exact Nat.le_succ_of_le e
 | .str x,h=>by
  have hx:∀c∈x.cps.toList,c<16^8:=by simpa only[Q5,PyData.leavesShort,VE,UP]using h
  have e:=PySem.StrLaws.reprText_len x hx
  simp only[Q5,PyData.shown,xS]
  omega
 | .tup xs,h=>by
  have h1:=zH xs (by simpa only[Q5,PyData.leavesShort]using h)
  have h2:=tupleText_len_le (PyData.shownAll (fX xs))
  have h3:=PyData.shownAll_length (fX xs)
  simp only[Q5,PyData.shown,xS]
  omega
 | .lst xs,h=>by
  have h1:=zH xs (by simpa only[Q5,PyData.leavesShort]using h)
  have h2:=listText_len_le (PyData.shownAll (fX xs))
  have h3:=PyData.shownAll_length (fX xs)
  simp only[Q5,PyData.shown,xS]
  omega
 |.dct _,_=>by simp only[Q5,xS];decide
 |.exc _ _ _,_=>by simp only[Q5,xS];decide
 |.fn _ _,_=>by simp only[Q5,xS];decide
 |.dk _ _,_=>by simp only[Q5,xS];decide
 |.gf _,_=>by simp only[Q5,xS];decide
theorem zH:∀ds:List D,PyData.leavesShortAll 601 (fX ds)=true->((PyData.shownAll (fX ds)).map (·.length)).sum+2*(fX ds).length<=sX ds
 |[],_=>by simp only[fX,PyData.shownAll,List.map_nil,List.sum_nil,List.length_nil,sX];omega
 | d::ds,h=>by
  have h':(Q5 d).leavesShort 601=true/\PyData.leavesShortAll 601 (fX ds)=true:=by simpa only[fX,PyData.leavesShortAll,UQ]using h
  have h1:=Bf d h'.1
  have h2:=zH ds h'.2
  simp only[fX,PyData.shownAll,Ve,List.sum_cons,V9,sX]
  omega
end
structure Ce (d:D):Prop where
 ok:Ri 40 d=true
 sh:b9 d=true
 ln:(Q5 d).shown.length<=sizeLine
theorem sW.l{d:D}(h:sW d):Ce d:=⟨h.ok,h.sh,h.len⟩
theorem Ce.of{d:D}(h1:Ri 40 d=true)(h2:b9 d=true)(h3:xS d<=16777216):Ce d:=by
 refine⟨h1,h2,UT (Bf d (PyData.leavesShort_of_canLay0 601 _ (iJ 40 d h1).1 (jE d h2).1)) ?_⟩;have e:sizeLine=16777216:=by decide
 rw[e];exact h3
section
variable{X:Cx}
def zJ:Q7:=λds k=>∃d,ds=[d]/\Mq d=true/\Ce d/\k (.d (.str (Mp d)))
theorem Bg{k:Nat}(hr:mv k X.A):gM X (.builtin "repr") zJ:=by
 intro ab s σ H Pr Z vs us ds k4 I r E ps ⟨d,e,hq,ho,h⟩;subst e;obtain⟨v,rfl,rd⟩:=pT ps;obtain⟨u,rfl,ru⟩:=sj r;obtain⟨as,rr⟩:=jx I d v u ru rd (iJ 40 d ho.ok).1;have hdep:=(iJ 40 d ho.ok).2
 have hex:∃a,u=.ref a:=by
  cases rd with
  |tup h1 h2=>cases ru;exact⟨_,rfl⟩
  |lst h1 h2=>cases ru;exact⟨_,rfl⟩
  |_=>cases hq
 obtain⟨a,rfl⟩:=hex;refine repr_of_reads' rr (jE d ho.sh).2 (PyData.noDict_hsm (PyData.hasDict_of_canLay _ (iJ 40 d ho.ok).1)) hr.gd (by have:=hr.units;omega) (λ_ _ e=>e) (λh' t tk hk=>?_) ho.ln;exact⟨.str _,H,_,I.kept (h':=h') (t':=tk) hk,⟨t,rfl⟩,E.cons_d (.str _),h⟩
end
end L2
namespace L2
open PySem PySem.Spec PyProof.Rows
end L2
namespace L2
open PySem PySem.Spec PyProof.Rows PySem.W
end L2
namespace L2
open PySem PySem.Spec PyProof.Rows
end L2
namespace L2
open PySem PySem.Spec PyProof.Rows PySem.SeqAt
mutual
noncomputable def RA:D->Bool
 |.dct n=>n == 0
 |.exc _ _ _=>false
 |.fn _ _=>false
 |.dk _ _=>false
 |.gf _=>false
 |.tup xs=>MA xs
 |.lst xs=>MA xs
 |.str x=>PyData.strOk x
 |_=>true
noncomputable def MA:List D->Bool
 |[]=>true
 |x::xs=>RA x && MA xs
end
mutual
theorem sY:∀d:D,RA d=true->b9 d=true->(Q5 d).leavesShort 601=true
 |.non,_,_=>rfl
 |.bl _,_,_=>rfl
 |.dct _,_,_=>rfl
 |.exc _ _ _,h,_=>by simp[RA]at h
 |.fn _ _,h,_=>by simp[RA]at h
 |.dk _ _,h,_=>by simp[RA]at h
 |.gf _,h,_=>by simp[RA]at h
 | .int i,_,h=>by
  have:=(jE (.int i) h).1
  simpa only[Q5,PyData.leavesShort,PyData.intsShort]using this
 |.str x,h,hs=>PyData.leavesShort_of_canLay0 601 (.str x) (by simpa only[RA,PyData.canLay0]using h) (jE (.str x) hs).1
 | .tup xs,h,hs=>by
  have:=pZ xs (by simpa only[RA]using h) (by simpa only[b9]using hs)
  simpa only[Q5,PyData.leavesShort]using this
 | .lst xs,h,hs=>by
  have:=pZ xs (by simpa only[RA]using h) (by simpa only[b9]using hs)
  simpa only[Q5,PyData.leavesShort]using this
theorem pZ:∀ds:List D,MA ds=true->cO ds=true->PyData.leavesShortAll 601 (fX ds)=true
 |[],_,_=>rfl
 | d::ds,h,hs=>by
  simp only[MA,UQ]at h
  simp only[cO,UQ]at hs
  simp only[fX,PyData.leavesShortAll,sY d h.1 hs.1,pZ ds h.2 hs.2,Bool.and_self]
end
structure OU (d:D):Prop where
 ok:RA d=true
 sh:b9 d=true
 dp:(Q5 d).depth<=40
 sg:xS d<=16777216
 ni:∀i,d≠.int i
theorem OU.len{d:D}(h:OU d):(Q5 d).shown.length<=sizeLine:=by
 have e:sizeLine=16777216:=by decide
 rw[e];exact UT (Bf d (sY d h.ok h.sh)) h.sg
end L2
namespace L2
open PySem PySem.Spec PyProof.Rows
section
def MB(o:Option L)(i k:Nat)(Z:Ev)(k4:L->Ev->Prop):Prop:=match o with
 |some (.bx none ls)=>∃l,ls[k]?=some l/\k4 l (Z.set i (.bx none (ls.set k .un)))
 |some (.d (.tup ds))=>∃d,ds[k]?=some d/\k4 (.d d) Z
 |_=>False
theorem Gj(ls:List L)(i k:Nat)(Z:Ev)(k4:L->Ev->Prop):MB (some (.bx none ls)) i k Z k4=∃l,ls[k]?=some l/\k4 l (Z.set i (.bx none (ls.set k .un))):=rfl
theorem JP(ds:List D)(i k:Nat)(Z:Ev)(k4:L->Ev->Prop):MB (some (.d (.tup ds))) i k Z k4=∃d,ds[k]?=some d/\k4 (.d d) Z:=rfl
end
section
def N5(r:L)(Z:Ev)(k4:L->Ev->Prop):Prop:=match r with
 |.bx (some _) ls=>k4 (.bx none ls) Z
 |_=>False
theorem Gk(a:Addr)(ls:List L)(Z:Ev)(k4:L->Ev->Prop):N5 (.bx (some a) ls) Z k4=k4 (.bx none ls) Z:=rfl
end
end L2
namespace L2
open PySem PySem.Spec PyProof.Rows PySem.W
theorem vV{p:Pos}{a b:Int}{c cv:Value}(l:List Value)(h:TriplesOk l)(e:codeAmong p (l++[rawInt a,rawInt b,c])=some cv):codeAmong p l=some cv∨cv=c:=by
 fun_induction TriplesOk l with
 | case1 =>
  simp only[VS,codeAmong,rawInt]at e;split at e
  . cases e;exact .inr rfl
  . cases e
 | case2 a' t b' u x rest ih =>
  simp only[List.cons_append,codeAmong]at e ⊢;split at e
  . rename_i hc;rw[if_pos hc];exact .inl e
  . rename_i hc;rw[if_neg hc];exact ih h e
 |case3 l h1 h2=>exact h.elim
theorem xT{cells:List (Str×Addr)}:∀(names:List (Str×NameKind))(acc:List (Str×Addr)),(names.filter λp=>p.2 == .free)=[]->xF cells names acc=acc
 |[],_,_=>rfl
 | (n,k)::r,acc,h=>by
  rw[VW]at h;unfold xF;by_cases hk:(k == NameKind.free)=true
  . rw[if_pos hk]at h;cases h
  . rw[if_neg hk]at h;rw[if_neg hk];exact xT r acc h
theorem Bh{cells:List (Str×Addr)}{y:Str}{c:Addr}(hc:cells.lookup y=some c):∀(names:List (Str×NameKind))(acc:List (Str×Addr)),(names.filter λp=>p.2 == .free)=[(y,.free)]->xF cells names acc=(y,c)::acc
 |[],_,h=>by cases h
 | (n,k)::r,acc,h=>by
  rw[VW]at h;unfold xF;by_cases hk:(k == NameKind.free)=true
  . rw[if_pos hk]at h;simp only[List.cons.injEq,Prod.mk.injEq]at h;obtain⟨⟨h1,h2⟩,h3⟩:=h;subst h1;rw[if_pos hk,hc];exact xT r _ h3
  . rw[if_neg hk]at h;rw[if_neg hk];exact Bh hc r acc h
section
variable{X:Cx}{ab:List (Addr×Obj)}{σ:St}{H:Hp}{s:Shared}
theorem Gm{x:Str}{c0 P c:Addr}{y:Str}{pr:Arguments}{bd:Expr}{sc:Scope}{pos:Pos}{Q:Value->Shared->Prop}{E:Value->Shared->Prop}{A:Around}
  (I:P7 X ab σ H s) (hx:x∈lamNames) (ht:tabIn X.K x=some (c0,P)) (hcode:X.env.code=.ref c0) (hq:X.env.qual++"<lambda>"=uZ x) (hcl:closureFor sc X.env=pure [(y,c)]) (hdef:defaultsOf pr X.env=([],[]))
  (h:∀(f c':Addr)(oq:Obj)(H':Hp)(s':Shared)(ctv pm:Value),P7 X ab σ H' s'->(∀ b o,H b=some o->H' b=some o)->s'.heap.get? f=some (kla_obj "<lambda>" (uZ x) pr bd sc [(y,c)] pm c' ctv)->H' f=none->s.heap.objs.size<=f ->
   H' c'=some (.frz oq (.own c'))->si oq (uZ x)->Q (.ref f) s'):wpAny (model X.prog X.w) A (eval (.Lambda pr bd sc pos) X.env) Q E s:=by
 have hP:=I.tbs x hx c0 P ht;obtain⟨ps,eP,tr,among⟩:=id (I.hok P _ hP);have C:CodeHd s.heap c0 P:=(I.ok.mod.cds x hx c0 P ht).keeps I.bk;have hg:s.heap.Ns mainGlobals X.mg:=I.ok.mod.glob.keeps I.bk;obtain⟨bm,ob,b1,b2,b3,b4,b5,b6⟩:=I.ok.mod.bmn;have hbk:=I.bk bm ob b3;have hgP:mainGlobals≠P:=λz=>by obtain⟨o,es,ep,e,hd,_⟩:=hg;rw[z,eP]at e;cases e;cases hd
 have hbP:bm≠P:=λz=>by rw[z,eP]at hbk;cases hbk;cases b4
 have hbG:bm≠mainGlobals:=λz=>by obtain⟨o,es,ep,e,hd,_⟩:=hg;rw[z,e]at hbk;cases hbk;rw[hd]at b6;cases b6
 refine kla_eval hdef ?_;rw[hq]
 cases q:codeAmong pos ps.toList with
 | none =>
  refine kla_makeFunction (mg:=X.mg) hcl I.ok.glob hg hcode C eP tr q hgP ⟨bm,ob,b1,b2,hbG,hbP,hbk,b4,b5,b6⟩ λc' ctv h' tk hx' hge hlt hrec htb=>?_;obtain⟨c2,oq,vs,t,e2,hoc,hd,hv⟩:=hrec;cases e2;have hn:H c'=none:=I.hok.fresh hge;have nP:∀b,H b=none->b≠P:=λb n z=>by rw[z,hP]at n;cases n
  have old:∀ b o,b≠P->s.heap.get? b=some o->(h'.push (kla_obj "<lambda>" (uZ x) pr bd sc [(y,c)] ((X.mg "__name__").getD .none) c' ctv)).get? b=some o:=λb o nb e=>tu _ (hx' b o nb e);have up:∀b u,H b=some u->PY H c' (.frz oq (.own c')) b=some u:=λb u e=>by rw[aG (bD e hn)];exact e
  have co:si oq (uZ x):=⟨vs,t,hd,hv⟩
  have J:P7 X ab σ (PY H c' (.frz oq (.own c'))) {s with heap:=h'.push (kla_obj "<lambda>" (uZ x) pr bd sc [(y,c)] ((X.mg "__name__").getD .none) c' ctv),toks:=tk}:=by
   refine I.un ⟨λb o e n _ _=>old b o (nP b n) e,λb o e n _ _=>⟨o.slots,old b o (nP b n) e⟩,λb o e n _=>?_,λb o e _=>?_,λb xs e=>up b _ e,λb o u e=>up b _ e,λb t e=>up b _ e⟩ λb u e=>?_
   . rw[aG (U7 (so (UR e) hge))];exact n
   .
    by_cases z:b=P
    . subst z;exact⟨_,tu _ htb⟩
    . exact⟨o,old b o z e⟩
   .
    by_cases z:b=c'
    . subst z;rw[bC]at e;cases e;exact⟨tu _ hoc,⟨_,tu _ hoc⟩⟩
    .
     rw[aG z]at e;by_cases zP:b=P
     .
      subst zP;rw[hP]at e;cases e;refine⟨_,tu _ htb,?_,λpos' cv hc'=>?_⟩
      . rw[Array.toList_append];exact TriplesOk_snoc _ _ _ _ tr
      .
       rw[Array.toList_append]at hc';rcases vV _ tr hc' with z1|z1
       . obtain⟨c3,o3,a1,a2,a3⟩:=among pos' cv z1;exact⟨c3,o3,a1,up _ _ a2,a3⟩
       . exact⟨c',oq,z1,bC,co⟩
     .
      refine(I.hok b u e).stay (λd v hd z2=>old d v ?_ z2) (λd z2=>up d _ z2) (λd xs z2=>up d _ z2) λd od _ _ z2=>up d _ z2;rcases hd with rfl|hd
      . exact zP
      . intro z3;rw[z3,hP]at hd;cases hd
  exact h _ c' oq _ _ ctv _ J up (U3 _ rfl) (by rw[aG (Nat.ne_of_gt hlt)];exact I.hok.fresh (UT hge (WJ hlt))) (UT hge (WJ hlt)) bC co
 | some cv =>
  obtain⟨c',oq,rfl,hz,co⟩:=among pos cv q;refine kla_makeFunctionHit (mg:=X.mg) hcl I.ok.glob hg hcode C eP tr q ⟨bm,ob,b1,b2,hbG,hbP,hbk,b4,b5,b6⟩ λctv h' tk hk hsz=>?_;exact h _ c' oq H _ ctv _ (I.kept λb o e=>tu _ (hk b o e)) (λ_ _ e=>e) (U3 _ rfl) (I.hok.fresh hsz) hsz hz co
end
def MC(K:Frag)(H:Hp)(h:Heap)(f:Addr)(x:Str)(d:D):Prop:=∃(c c':Addr)(oc oq:Obj)(y:Str)(pr:Arguments)(bd:Expr)(sc:Scope)(pos:Pos)(pm ctv u:Value)(v:V),
 B0 K x=some (pr,bd,sc,pos)/\h.get? f=some (kla_obj "<lambda>" (uZ x) pr bd sc [(y,c)] pm c' ctv)/\h.get? c'=some oq/\si oq (uZ x)/\h.get? c=some oc/\(H c=none∨∃ o,H c=some (.frz o (.own c)))/\oc.data=.cell (some u)/\cq v u/\(y,NameKind.free)∈sc.names/\QM K H v d
noncomputable def JQ(P:Program)(w:World)(K:Frag)(mg:Str->Option Value)(base:Heap)(p y:Str)(qual:Str)(sc:Scope)(f c':Addr)(cl:List (Str×Addr))(A:Around)(outer:List Env)(s:Shared)(H:Hp):Cx where
 prog:=P
 w:=w
 K:=K
 mg:=mg
 base:=base
 A:=A.deeper (envX qual sc s.heap.objs.size f (.ref c') cl)
 N:=[p,y]
 s₀:=s
 H₀:=H
 env:=envX qual sc s.heap.objs.size f (.ref c') cl
 outer:=outer
 stack:=envX qual sc s.heap.objs.size f (.ref c') cl::outer
 ex:=[]
 calm:=true
 fn:=λ_=>false
 pn:=[]
 xe:=λ_ _=>False
structure JR (p y:Str) (pr:Arguments) (bd:Expr) (sc:Scope):Prop where
 par:sc.names.lookup p=some .local
 fre:sc.names.lookup y=some .free
 nc:∀z∈sc.names,z.2≠.cell
 one:∀z,(z,NameKind.free)∈sc.names->z=y
 co:sc.isCoroutine=false
 gen:sc.isGenerator=false
 kind:sc.kind=.function
 bind:∀(q:Str)(cl:List (Str×Addr))(pm cdv ct u:Value),bindArgs (kla_fn "<lambda>" q pr bd sc cl pm cdv ct) ⟨[u],[]⟩=pure [(p,u)]
def NC(r:L)(k:D->Prop):Prop:=match r with
 |.d z=>k z
 |_=>False
theorem JS{r:L}{k:D->Prop}(h:NC r k):∃z,r=.d z/\k z:=by
 cases r with
 |d z=>exact⟨z,rfl,h⟩
 |_=>exact h.elim
structure JT (P:Program) (w:World) (K:Frag) (mg:Str->Option Value) (base:Heap) (k:Nat) (x:Str) (fs:FS):Prop where
 run:∀(A:Around)(outer:List Env)(s:Shared)(H:Hp)(f:Addr)(u:Value)(v:V)(a d:D)(k4:D->Prop),mv k A->FE P w K mg base A outer s H->cq v u->QM K H v a->MC K H s.heap f x d->fs [.d a,.d d] (λr _=>NC r k4) ->
  codeAny (model P w) A (.call (.ref f) ⟨[u],[]⟩) (CR CX0 outer P w H s (λv H'=>(∀b o,H b=some o->H' b=some o)/\∃z,QM K H' v z/\k4 z) E0) s
theorem JU{P:Program}{w:World}{K:Frag}{mg:Str->Option Value}{base:Heap}{p y:Str}{qual:Str}{pr:Arguments}{bd:Expr}{sc:Scope}{f c c':Addr}{A:Around}{outer:List Env}{s:Shared}{H:Hp}{h1:Heap}{tk:Nat}{u u':Value}{v v':V}{oc:Obj}
  (S:JR p y pr bd sc) (hd:A.handled=none) (e0:FE P w K mg base A outer s H) (r:cq v u) (r':cq v' u') (gc:s.heap.get? c=some oc) (dc:oc.data=.cell (some u')) (hc:H c=none∨∃o,H c=some (.frz o (.own c)))
  (hns:h1.Ns s.heap.objs.size λz=>[(p,u)].reverse.lookup z) (k:∀b o,s.heap.get? b=some o->h1.get? b=some o) :
  P7 (JQ P w K mg base p y qual sc f c' [(y,c)] A outer s H) [] [some v,some v'] H {s with heap:=h1,toks:=tk}:=by
 have hpy:p≠y:=λz=>by have:=S.par;rw[z,S.fre]at this;cases this
 have one:∀z d,([(y,c)]:List (Str×Addr)).lookup z=some d->z=y/\d=c:=λz d e=>by
  rw[Vr]at e
  cases q:z == y with
  |true=>rw[q]at e;cases e;exact⟨eq_of_beq q,rfl⟩
  |false=>rw[q]at e;cases e
 have at_y:([(y,c)]:List (Str×Addr)).lookup y=some c:=by rw[Vr,beq_self_eq_true]
 have noA:∀b:Addr,b∉(JQ P w K mg base p y qual sc f c' [(y,c)] A outer s H).ex:=λb z=>absurd (show b∈([]:List Addr)from z) x_
 refine⟨⟨e0.mod,S.kind,rfl,rfl,US _,λa b d h1 h2=>?_,λz hz=>?_,λz d hf _=>absurd (show false=true from hf) xp,λ_=>hd,Around.frames_deeper e0.frames,.inr ⟨rfl,rfl⟩,λb z=>absurd z (noA b),e0.bs,e0.bsz,λb _ _=>noA b,λb z=>absurd z (noA b),e0.funs,e0.frf,e0.tbs⟩,
  rfl,e0.bare,Un.kept k,⟨_,hns,λi z v2 h1 h2 h3=>?_⟩,λz d h=>?_,e0.hok.fresh (US _),λz d h=>?_,λq hq=>absurd (show q∈([]:List (Addr×Obj))from hq) x_,e0.hok.kept k,rfl⟩
 . exact(one a d h1).1.trans (one b d h2).1.symm
 .
  have hz:sc.names.lookup z=some .cell∨sc.names.lookup z=some .free:=hz;rcases hz with hz|hz
  . exact absurd rfl (S.nc _ (VY hz))
  . rw[S.one z (VY hz)];exact⟨c,at_y⟩
 .
  match i,h1,h2 with
  | 0,h1,h2 =>
   have e1:p=z:=U6 h1;have e2:v=v2:=by simpa using h2
   subst e1 e2;exact⟨u,r,.inl ⟨S.par,x_⟩⟩
  | 1,h1,h2 =>
   have e1:y=z:=U6 h1;have e2:v'=v2:=by simpa using h2
   subst e1 e2;exact⟨u',r',.inr ⟨.inr S.fre,c,at_y,oc,k c oc gc,dc⟩⟩
  |n+2,h1,h2=>simp at h2
 . obtain⟨_,rfl⟩:=one z d h;exact⟨_,oc,k d oc gc,dc⟩
 . obtain⟨_,rfl⟩:=one z d h;exact hc.imp id λz=>⟨rfl,z⟩
theorem MD{P:Program}{w:World}{K:Frag}{mg:Str->Option Value}{base:Heap}{k:Nat}{x p y:Str}{pr:Arguments}{bd:Expr}{sc:Scope}{pos:Pos}{fs:FS}(hl:B0 K x=some (pr,bd,sc,pos))(S:JR p y pr bd sc)(t:W L)
  (hbody:∀(A:Around)(outer:List Env)(s:Shared)(H:Hp)(f c c':Addr),mv k (A.deeper (envX (uZ x) sc s.heap.objs.size f (.ref c') [(y,c)]))->PL (JQ P w K mg base p y (uZ x) sc f c' [(y,c)] A outer s H) bd t)
  (h:∀a d k4,fs [.d a,.d d] k4->t [.d a,.d d] λr _=>k4 r []):JT P w K mg base (k+1) x fs:=by
 refine⟨λA outer s H f u v a d k4 hr e0 rv ra la hf=>?_⟩;obtain⟨c,c',oc,oq,y',pr',bd',sc',pos',pm,ctv,u',v',hl',gf,gq,hq,gc,hc,dc,rv',hm,rd⟩:=la;rw[hl]at hl';cases hl';obtain rfl:=S.one y' hm;obtain⟨vs,tq,hd1,hd2⟩:=hq;have lim:s.heap.NoLimit:=e0.mod.nolimit.keeps λb o e=>(e0.bs b o e).1;refine kla_callFunE hr.depth gf rfl S.co S.gen rfl ⟨c',oq,vs,tq,rfl,gq,hd1,hd2⟩ ?_;rw[S.bind]
 refine U0 (wpAny_newFunctionEnv S.nc (λz hz=>by
  have:z=(p,u):=by simpa using hz
  subst this;exact S.par) (λh₁ hns hsb=>⟨lim.fresh _ hsb,?_⟩) S.kind)
 have hk₁:∀b o,s.heap.get? b=some o->h₁.get? b=some o:=λb o e=>hsb.extBut b o (U7 (UR e)) (tu _ e);show codeAny _ _ (.expr bd (envX (uZ x) sc s.heap.objs.size f (.ref c') [(y',c)])) _ _;have I:=JU (P:=P) (w:=w) (K:=K) (mg:=mg) (base:=base) (qual:=uZ x) (f:=f) (c':=c') (tk:=s.toks+[(p,u)].length) S hr.hd e0 rv rv' gc dc hc hns hk₁;have E:aF K H H [some v,some v'] [.d a,.d d]:=⟨λ_ _ e=>e,List.nodup_nil,λa ha=>absurd (show a∈([]:List Addr)from ha) x_,.cons ⟨v,rfl,ra⟩ (.cons ⟨v',rfl,rd⟩ .nil)⟩;refine kla_codeExpr (V7 (hbody A outer s H f c c' (hr.deeper _) [] _ _ H H _ (λr _=>NC r k4) I E (h a d _ hf)) (λv2 s' hs=>?_) λe s' hs=>(show False from hs).elim);obtain⟨v3,H',r,Z',J,rv3,E',q⟩:=hs;obtain⟨z,rfl,hp⟩:=JS q;obtain⟨w3,e3,rz⟩:=E'.head_d;cases e3;exact⟨v3,H',J.os,J.bare,J.base,J.hok,rv3,E'.sub,z,rz,hp⟩
def N6(i:Nat)(Z:Ev)(k:D->Prop):Prop:=match Z[i]? with
 |some (.d x)=>k x
 |_=>False
theorem JV{i:Nat}{Z:Ev}{k:D->Prop}(h:N6 i Z k):∃x,Z[i]?=some (.d x)/\k x:=by
 unfold N6 at h;split at h
 . rename_i x q;exact⟨x,q,h⟩
 . exact h.elim
theorem Un.one{P:Program}{w:World}{fs:List Addr}{H H':Hp}{h h':Heap}{c:Addr}{oc:Obj}(hc:H c=none)(gc:h.get? c=some oc)(cc:∀q,¬si oc q)(u:Un fs [] (PY H c (.frz oc (.own c))) H' h h')(ok:PZ P w H' h') :
  Un fs [] H (Rw H' c) h h'/\PZ P w (Rw H' c) h':=by
 have zc:H' c=some (.frz oc (.own c)):=u.frzs c oc _ bC;have gc':h'.get? c=some oc:=(ok c _ zc).1;have nz:∀b o,H' b=some o->o≠.frz oc (.own c)->b≠c:=λb o e n z=>by subst z;rw[zc]at e;cases e;exact n rfl
 refine⟨⟨λb o e n hb hx=>?_,λb o e n hb hx=>?_,λb o e n hx=>?_,λb o e hx=>u.there b o e hx,λb xs e=>?_,λb o v e=>?_,λb t e=>?_⟩,λb o e=>?_⟩
 .
  by_cases z:b=c
  . subst z;rw[gc]at e;cases e;exact gc'
  . exact u.keep b o e (by rw[aG z];exact n) hb hx
 .
  by_cases z:b=c
  . subst z;rw[gc]at e;cases e;exact⟨oc.slots,gc'⟩
  . exact u.slot b o e (by rw[aG z];exact n) hb hx
 .
  by_cases z:b=c
  . subst z;exact Bd
  . rw[qQ z];exact u.free b o e (by rw[aG z];exact n) hx
 . have z:=bD e hc;rw[qQ z];exact u.tups b xs (by rw[aG z];exact e)
 . have z:=bD e hc;rw[qQ z];exact u.frzs b o v (by rw[aG z];exact e)
 . have z:=bD e hc;rw[qQ z];exact u.tbls b t (by rw[aG z];exact e)
 .
  have hb:b≠c:=λz=>by subst z;rw[Bd]at e;cases e
  rw[qQ hb]at e;refine(ok b o e).stay (λ_ _ _ z=>z) (λd z=>?_) (λd xs z=>?_) λd od q co z=>?_
  . rw[qQ (nz d _ z λy=>nomatch y)];exact z
  . rw[qQ (nz d _ z λy=>nomatch y)];exact z
  . rw[qQ (nz d _ z λy=>by cases y;exact cc q co)];exact z
structure ME (X:Cx) (x y:Str) (i:Nat) (pr:Arguments) (bd:Expr) (sc:Scope) (pos:Pos):Prop where
 mem:x∈lamNames
 tab:∃c0 P,tabIn X.K x=some (c0,P)/\X.env.code=.ref c0
 lam:B0 X.K x=some (pr,bd,sc,pos)
 qual:X.env.qual++"<lambda>"=uZ x
 deft:defaultsOf pr X.env=([],[])
 fre:(sc.names.filter λp=>p.2 == .free)=[(y,.free)]
 at_i:X.N[i]?=some y
 cel:X.env.scope.names.lookup y=some .cell
 fn:X.fn y=true
structure MF (K:Frag) (x:Str) (fd:FuncData) (st:Stmt):Prop where
 tab:∃c0 P,tabIn K x=some (c0,P)/\fd.code=.ref c0
 lam:B0 K x=Df (gA st)
theorem MF.mk'{K:Frag}{x:Str}{fd:FuncData}{st:Stmt}{c0:Addr}(h1:(tabIn K x).map (·.1)=some c0)(h2:fd.code=.ref c0)(h3:B0 K x=Df (gA st)):MF K x fd st:=by
 refine⟨?_,h3⟩
 cases z:tabIn K x with
 |none=>rw[z]at h1;cases h1
 |some p=>rw[z]at h1;cases h1;exact⟨p.1,p.2,rfl,h2⟩
theorem MG{X:Cx}{x y:Str}{i:Nat}{pr:Arguments}{bd:Expr}{sc:Scope}{pos:Pos}{fd:FuncData}{st:Stmt}(T:MF X.K x fd st)(hc:fd.code=X.env.code)(h1:Df (gA st)=some (pr,bd,sc,pos))(mem:x∈lamNames) (qual:X.env.qual++"<lambda>"=uZ x) (deft:defaultsOf pr X.env=([],[]))
  (fre:(sc.names.filter λp=>p.2 == .free)=[(y,.free)]) (at_i:X.N[i]?=some y) (cel:X.env.scope.names.lookup y=some .cell) (fn:X.fn y=true):ME X x y i pr bd sc pos :=
 ⟨mem,let ⟨c0,P,a,b⟩:=T.tab;⟨c0,P,a,by rw[<- hc];exact b⟩,T.lam.trans h1,qual,deft,fre,at_i,cel,fn⟩
theorem N7{p y:Str}{pr:Arguments}{bd:Expr}{sc:Scope}(par:sc.names.lookup p=some .local)(fre:(sc.names.filter λp=>p.2 == .free)=[(y,.free)])(fr1:sc.names.lookup y=some .free)(nc:(sc.names.all λz=>z.2 != .cell)=true)(co:sc.isCoroutine=false)(gk:(sc.isGenerator,sc.kind)=(false,.function))
  (bind:∀(q:Str)(cl:List (Str×Addr))(pm cdv ct u:Value),bindArgs (kla_fn "<lambda>" q pr bd sc cl pm cdv ct) ⟨[u],[]⟩=pure [(p,u)]):JR p y pr bd sc where
 par:=par
 fre:=fr1
 nc:=λz hz q=>by have:=VE.mp nc z hz;rw[q]at this;exact absurd this xp
 one:=λz hz=>by have:(z,NameKind.free)∈sc.names.filter λp=>p.2 == .free:=VG.mpr ⟨hz,rfl⟩;rw[fre]at this;simpa using this
 co:=co
 gen:=(Prod.mk.inj gk).1
 kind:=(Prod.mk.inj gk).2
 bind:=bind
section
variable{X:Cx}{ab:List (Addr×Obj)}{σ:St}{H:Hp}{s:Shared}
theorem Rx.nofs{b:Addr}(I:P7 X ab σ H s)(n:Rx X ab b):b∉P4 X.stack:=λhb=>by
 rcases UV.mp (I.stkSub b hb)with z|z
 . exact n.loc z
 . obtain⟨_,o,ho,_⟩:=I.ok.funs.mem z;exact absurd (so (UR ho) n.s0) (V5 _)
theorem P7.two{h':Heap}{t':Nat}{c d:Addr}(I:P7 X ab σ H s)(nc:Rx X ab c)(nd:Rx X ab d)(hc:H c=none)(hd:H d=none)(k:∀b o,b≠X.env.locals->b≠c->b≠d->s.heap.get? b=some o->h'.get? b=some o)
  (ns:∀m,s.heap.Ns X.env.locals m->h'.Ns X.env.locals m):P7 X ab σ H {s with heap:=h',toks:=t' }:=by
 have nit:∀b u,H b=some u->b≠X.env.locals/\b≠c/\b≠d:=λb u e=>⟨λz=>(by rw[z,I.free]at e;cases e),λz=>(by rw[z,hc]at e;cases e),λz=>(by rw[z,hd]at e;cases e)⟩
 refine I.step (g':=s.gens) (d':=s.drawn) (ch:=[c,d]) (λb hb=>?_) (λb o hL _ hb e _=>k b o hL (λz=>hb (by simp[z])) (λz=>hb (by simp[z])) e) (λb o hL _ hb e _=>⟨o.slots,k b o hL (λz=>hb (by simp[z])) (λz=>hb (by simp[z])) e⟩) (λ_ _ _ _ n=>n)
  (λb o hb e=>?_) (λ_ _ e=>e) (λ_ _ _ e=>e) (λ_ _ e=>e) ns (λb u e=>?_) I.bare
 .
  have:b=c∨b=d:=by simpa using hb
  rcases this with rfl|rfl
  . exact⟨.inr nc.s0,nc.loc,nc.cel,nc.pin⟩
  . exact⟨.inr nd.s0,nd.loc,nd.cel,nd.pin⟩
 .
  by_cases hL:b=X.env.locals
  . obtain⟨m,hn,_⟩:=I.loc;obtain⟨o2,_,_,e2,_⟩:=ns m hn;rw[hL];exact⟨o2,e2⟩
  . exact⟨o,k b o hL (λz=>hb (by simp[z])) (λz=>hb (by simp[z])) e⟩
 .
  refine(I.hok b u e).stay (λx v hx q=>?_) (λ_ q=>q) (λ_ _ q=>q) λ_ _ _ _ q=>q
  have:∃u,H x=some u:=by
   rcases hx with rfl|hx
   . exact⟨u,e⟩
   . exact⟨_,hx⟩
  obtain⟨u2,e2⟩:=this;obtain⟨n1,n2,n3⟩:=nit x u2 e2;exact k x v n1 n2 n3 q
def RC(X:Cx)(ab:List (Addr×Obj))(σ:St)(H:Hp)(kS a:Addr)(s:Shared):Prop:=∃H',P7 X ab σ H' s/\(∀b o,H b=some o->H' b=some o)/\H' kS=none/\H' a=none/\(∃o,s.heap.get? kS=some o)/\∃o,s.heap.get? a=some o
def RD(X:Cx)(ab:List (Addr×Obj))(σ:St)(H:Hp)(a:Addr)(s:Shared):Prop:=∃H',P7 X ab σ H' s/\(∀b o,H b=some o->H' b=some o)/\H' a=none
variable{kS a:Addr}{vs:List Value}{kz:List Int}{e1:Nat}{f:Value}{A':Around}{P:PySem.Fin->Shared->Prop}{E:Value->Shared->Prop}
theorem Gn(J0:RC X ab σ H kS a s)(nk:Rx X ab kS)(na:Rx X ab a)(hka:kS≠a) (gk:s.heap.get? kS=some (seqObj "list" #[] 0)) (ga:s.heap.get? a=some (seqObj "list" #[] e1)) (b0:kz.length=vs.length) (h64:vs.length < 64)
  (turn:∀(i:Nat)(v:Value)(k:Int),vs[i]?=some v->kz[i]?=some k->∀s',RC X ab σ H kS a s' ->
   wpAny (model X.prog X.w) A' (call f [v]) (λr s''=>∃t,r=.int k t/\RC X ab σ H kS a s''/\(∀o,s'.heap.get? kS=some o->s''.heap.get? kS=some o)/\∀o,s'.heap.get? a=some o->s''.heap.get? a=some o) (λ_ _=>False) s')
  (h:∀ s' out c,RD X ab σ H a s'->s'.heap.get? a=some (seqObj "list" out c)->KskOut false kz vs out.toList->P (.done (.ret .none)) s') :
  wpAny (model X.prog X.w) A' (ksk_rest a f false vs.toArray e1 (.ref kS)) P E s:=by
 unfold ksk_rest;refine UL (wpAny_rule ?_)
 first
  |rw[List.forIn_toArray]
  |(rw[<- Array.forIn_toList];simp only[List.toList_toArray])
  |rw[<- Array.forIn_toList]
 refine UL (ksk_fold (λi s'=>∃ kA e,RC X ab σ H kS a s'/\s'.heap.get? kS=some (seqObj "list" kA e)/\s'.heap.get? a=some (seqObj "list" #[] e1)/\IntsAre kA.toList (kz.take i)) vs 0 s
  ⟨#[],0,J0,gk,ga,by simpa using IntsAre.nil⟩ ?step ?done)
 case step =>
  rintro j x s' hx ⟨kA,e,J,g1,g2,hk⟩;simp only[Nat.zero_add]at hk ⊢;have hj:j<vs.length:=(k5.mp hx).1;obtain⟨k,hkj⟩:∃k,kz[j]?=some k:=⟨_,fI xL⟩;have hz:kA.size<=vs.length:=by have h1:=hk.length;rw[Array.length_toList,Wa]at h1;omega
  refine UL (wpAny_attempt (V7 (turn j x k hx hkj s' J) (λv s'' he=>?_) λ_ _ hF=>hF.elim));obtain⟨t2,rfl,⟨H',I,up,hn1,hn2,_,_⟩,k1,k2⟩:=he
  try dsimp only
  have q1:=k1 _ g1;have q2:=k2 _ g2;have s1:=Heap.SameBut.update s''.heap kS (Obj.mapSeq (·.push (.int k t2)));obtain⟨c2,hc2⟩:∃ c2,(s''.heap.update kS (Obj.mapSeq (·.push (.int k t2)))).get? kS=some (seqObj "list" (kA.push (.int k t2)) c2):=⟨_,get?_update_seq q1 (·.push (.int k t2))⟩;have ek:kz.take (j+1)=kz.take j++[k]:=by rw[List.take_add_one,hkj];simp
  have ea:(kA.push (Value.int k t2)).toList=kA.toList++[Value.int k t2]:=by simp
  refine UL (listUpdate_at q1 rfl ?_ (by rw[Wh];omega) (UT (Nat.le_of_eq (Array.size_push ..)) (by rw[Wh];omega)));refine U0 ⟨rfl,kA.push (.int k t2),c2,⟨H',?_,up,hn1,hn2,⟨_,hc2⟩,⟨_,(s1.2 a hka.symm).trans q2⟩⟩,hc2,(s1.2 a hka.symm).trans q2,by rw[ea,ek];exact ksk_snoc hk⟩;exact I.two (t':=s''.toks) nk na hn1 hn2 (λb o _ n1 _ q=>(s1.2 b n1).trans q) λm hm=>hm.sameBut s1 (VB nk.loc)
 case done =>
  rintro s' ⟨kA,e,⟨H',I,up,hn1,hn2,_,_⟩,g1,g2,hk⟩;have hk':IntsAre kA.toList kz:=by have e3:kz.take (0+vs.length)=kz:=VU xL;rw[e3]at hk;exact hk
  try dsimp only
  refine UL (listItems_at g1 rfl ?_);obtain⟨m,hn,_⟩:=id I.loc;have F:Fr (Att.noObjs s'.heap) X.env.locals s'.heap m:=⟨hn,λb o z=>(by rw[Att.noObjs_get]at z;cases z),Vv _⟩;refine ksk_end_ (b:=false) (e:=e) (h₀:=Att.noObjs s'.heap) (L:=X.env.locals) (m:=m) (news:=(pQ (Att.noObjs s'.heap) s'.heap X.env.locals).filter λp=>decide (p.1≠kS) && decide (p.1≠a)) F (λp hp=>?_) hka (λp hp=>?_) (λp hp=>?_) hk' b0 h64 λh3 tk3 out c F3 N3 k3=>?_
  .
   rcases Vg.mp hp with hp|hp
   . exact AJ p (VG.mp hp).1
   .
    rcases UV.mp hp with rfl|hp
    . exact⟨g1,nk.loc,Att.noObjs_get _ _⟩
    . rw[Vx.mp hp];exact⟨g2,na.loc,Att.noObjs_get _ _⟩
  . have:=(VG.mp hp).2;simp only[UQ,UP]at this;exact this.1
  . have:=(VG.mp hp).2;simp only[UQ,UP]at this;exact this.2
  .
   refine h _ out c ⟨H',?_,up,hn2⟩ (N3 _ (.head _)).1 k3;refine I.two (h':=h3) (t':=tk3) nk na hn1 hn2 (λb o n0 n1 n2 q=>?_) λm2 hm2=>?_
   . exact(N3 (b,o) (.tail _ (VG.mpr ⟨nA n0 (Att.noObjs_get _ _) q,by simp[n1,n2]⟩))).1
   . have e1:=hm2.eq_nsMap;have e2:=hn.eq_nsMap;rw[e1,<- e2];exact F3.ns
theorem Cf{l q:Addr}{Q:Value->Shared->Prop}(I:P7 X ab σ H s)(hl:s.heap.IsList l vs.toArray)(b0:kz.length=vs.length)(h64:vs.length<64)
  (turn:∀kS a,Rx X ab kS->Rx X ab a->∀(i:Nat)(v:Value)(k:Int),vs[i]?=some v->kz[i]?=some k->∀s',RC X ab σ H kS a s' ->
   wpAny (model X.prog X.w) X.A.in1.in1 (call (.ref q) [v]) (λr s''=>∃t,r=.int k t/\RC X ab σ H kS a s''/\(∀o,s'.heap.get? kS=some o->s''.heap.get? kS=some o)/\∀o,s'.heap.get? a=some o->s''.heap.get? a=some o) (λ_ _=>False) s')
  (h:∀ a s' out c,Rx X ab a->RD X ab σ H a s'->s'.heap.get? a=some (seqObj "list" out c)->KskOut false kz vs out.toList->Q (.ref a) s') :
  wpAny (model X.prog X.w) X.A (call (.builtin "sorted") [.ref l] [(Str.ofString "key",.ref q)]) Q E s:=by
 refine call_function_entry_kw kind_sorted plain_sorted entry_sorted (ksk_s1 _ _) ?_;unfold Builtin.«sorted»;refine UL (m:=checkCount "sorted" 1 1 _) (U0 ?_);refine UL (collect_list hl ?_ (by rw[Wh];omega));refine UL (wpAny_newList ?_ (by rw[Wh];omega));have hsz:((s.heap.push (seqObj "list" #[] 0)).update s.heap.objs.size (Obj.mapSeq (·++vs.toArray))).objs.size=s.heap.objs.size+1:=by rw[Heap.size_update,size_push']
 have hoL:(((s.heap.push (seqObj "list" #[] 0)).update s.heap.objs.size (Obj.mapSeq (·++vs.toArray))).push (seqObj "list" vs.toArray 0)).get? (s.heap.objs.size+1)=some (seqObj "list" vs.toArray 0):=by rw[<- hsz];exact U3 _ rfl
 have keep:∀ b o,s.heap.get? b=some o->(((s.heap.push (seqObj "list" #[] 0)).update s.heap.objs.size (Obj.mapSeq (·++vs.toArray))).push (seqObj "list" vs.toArray 0)).get? b=some o:=λb o q=>by have hlt:b<s.heap.objs.size:=UR q;rw[Heap.get?_push_ne _ _ _ (by rw[hsz];exact U7 (Nat.lt_succ_of_lt hlt)),Heap.get?_update_ne _ _ _ _ (U7 hlt),Heap.get?_push_ne _ _ _ (U7 hlt)];exact q
 show wpAny _ _ _ _ _ {s with heap:=((s.heap.push (seqObj "list" #[] 0)).update s.heap.objs.size (Obj.mapSeq (·++vs.toArray))).push (seqObj "list" vs.toArray 0) };rw[hsz];generalize hhp:((s.heap.push (seqObj "list" #[] 0)).update s.heap.objs.size (Obj.mapSeq (·++vs.toArray))).push (seqObj "list" vs.toArray 0)=hp at hoL keep;generalize ha:s.heap.objs.size+1=a at hoL;have sa:s.heap.objs.size<=a:=by omega
 refine UL (V0 (wpAny_call_entry_kw slot_list_sort ⟨_,hoL,rfl⟩ entry_list_sort ?body (ksk_l1 _ _)))
 case body =>
  show wpAny (model X.prog X.w) X.A.in1.in1 (Builtin.«list.sort» ⟨[.ref a],[(Str.ofString "key",.ref q)]⟩) _ _ _;rw[ksk_t1];have s1:=Heap.SameBut.update hp a (Obj.mapSeq λ_=>(#[]:Array Value));obtain⟨e1,ho1⟩:∃ e1,(hp.update a (Obj.mapSeq λ_=>(#[]:Array Value))).get? a=some (seqObj "list" #[] e1):=⟨_,get?_update_seq hoL λ_=>#[]⟩;have la:a<hp.objs.size:=UR hoL;have hkS:((hp.update a (Obj.mapSeq λ_=>(#[]:Array Value))).push (seqObj "tuple" vs.toArray 0)).objs.size=hp.objs.size+1:=by rw[size_push',Heap.size_update]
  unfold ksk_tree;refine UL (listItems_at hoL rfl ?_);refine UL (listUpdate_at hoL rfl ?_ (by rw[UZ,Wh];omega) (Vv _));refine UL (seqEpoch_at ho1 rfl ?_);refine UL (wpAny_newTuple ?_ (by show vs.length<=_;rw[Wh];omega));refine UL (wpAny_newList ?_ (Vv _));refine V0 ?_;have sk:s.heap.objs.size<=((hp.update a (Obj.mapSeq λ_=>(#[]:Array Value))).push (seqObj "tuple" vs.toArray 0)).objs.size:=by rw[hkS]; omega
  have nka:((hp.update a (Obj.mapSeq λ_=>(#[]:Array Value))).push (seqObj "tuple" vs.toArray 0)).objs.size≠a:=by rw[hkS]; omega
  have nk:Rx X ab ((hp.update a (Obj.mapSeq λ_=>(#[]:Array Value))).push (seqObj "tuple" vs.toArray 0)).objs.size:=I.newer sk;have na:Rx X ab a:=I.newer sa
  refine Gn (s:={s with heap:=((hp.update a (Obj.mapSeq λ_=>(#[]:Array Value))).push (seqObj "tuple" vs.toArray 0)).push (seqObj "list" #[] 0) }) (kS:=((hp.update a (Obj.mapSeq λ_=>(#[]:Array Value))).push (seqObj "tuple" vs.toArray 0)).objs.size) (a:=a) (H:=H)
   ⟨H,I.kept (t':=s.toks) (λb o z=>tu _ (tu _ ((s1.2 b (U7 (so (UR z) sa))).trans (keep b o z)))),λ_ _ z=>z,I.hok.fresh sk,I.hok.fresh sa,⟨_,U3 _ rfl⟩,⟨_,tu _ (tu _ ho1)⟩⟩ nk na nka
   (U3 _ rfl) (tu _ (tu _ ho1)) b0 h64 (turn _ a nk na) λs' out c J g k=>⟨_,rfl,?_⟩
  exact U0 ⟨_,rfl,h a s' out c na J g k⟩
end
noncomputable def vf:Value->Int
 |.int n _=>n
 |_=>0
theorem vW:∀{us:List Value}{ns:List Int},IntsAre us ns->us.map vf=ns/\∀u∈us,∃t,u=.int (vf u) t
 |_,_,.nil=>⟨rfl,λu h=>by simp at h⟩
 | _,_,.cons n t h=>by
  obtain⟨h1,h2⟩:=vW h;refine⟨by rw[Ve,h1];rfl,λu hu=>?_⟩;rcases UV.mp hu with rfl|hu
  . exact⟨t,rfl⟩
  . exact h2 u hu
theorem Gp{us:List Value}{ns:List Int}{g:Int->Int}{out:List Value}(hi:IntsAre us ns)(h:KskOut false (ns.map g) us out):(out.map vf).Perm ns/\(out.map vf).Pairwise (λa b=>g a<=g b)/\cK ((out.map vf).map V.int) out:=by
 obtain⟨e1,e2⟩:=vW hi;obtain⟨ps,hp,rfl,hs⟩:=h
 have hz:∀p∈(ns.map g).zip us,p.1=g (vf p.2)/\p.2∈us:=λp hp=>by
  obtain⟨j,hj,rfl⟩:=Vu hp;rw[WE];rw[VO]at hj;refine⟨?_,UO _⟩;simp only[List.getElem_map]
  congr 1
  have:(us.map vf)[j]?=ns[j]?:=by rw[e1]
  rw[UU,fI xL,fI (by simpa using(show j<(ns.map g).length by omega))]at this;simpa using this.symm
 have hz':∀p∈ps,p.1=g (vf p.2)/\p.2∈us:=λp h=>hz p (hp.mem_iff.mp h);have hm:(ps.map Prod.snd).map vf=ps.map λp=>vf p.2:=by rw[Vn];rfl
 refine⟨?_,?_,?_⟩
 .
  rw[hm];refine(hp.map _).trans ?_;have:((ns.map g).zip us).map (λp=>vf p.2)=ns:=by rw[show(λp:Int×Value=>vf p.2)=vf ∘ Prod.snd from rfl,<- Vn,List.map_snd_zip,e1];have:=hi.length;rw[UN];omega
  rw[this]
 . rw[hm,List.pairwise_map];refine List.Pairwise.imp_of_mem (λ{a b} ha hb q=>?_) hs;rw[<- (hz' a ha).1,<- (hz' b hb).1];simpa using q
 .
  have all:∀l:List Value,(∀u∈l,∃t,u=.int (vf u) t)->cK ((l.map vf).map V.int) l:=by
   intro l
   induction l with
   |nil=>exact λ_=>.nil
   |cons u l ih=>exact λh=>.cons (h u p4) (ih λv hv=>h v (gV _ hv))
  refine all _ λu hu=>?_;obtain⟨p,hpm,rfl⟩:=VA.mp hu;exact e2 _ (hz' p hpm).2
def Ic(fs:FS)(i:Nat)(t:W L):W L:=λZ k4=>t Z λr Z1=>QS r λd=>∃(ns:List Int)(g:Int->Int),d=.lst (ns.map .int)/\ns.length<64/\N6 i Z1 λv=>(∀n∈ns,fs [.d (.int n),.d v] λr _=>NC r λz=>z=.int (g n)) /\
 ∀(a:Addr)(out:List Int),out.Perm ns->out.Pairwise (λa b=>g a<=g b)->k4 (.own a (out.map .int)) Z1
section
variable{X:Cx}{k k':Nat}{x y:Str}{p cpos pos kpos:Pos}{e:Expr}{t:W L}{fs:FS}{pr:Arguments}{bd:Expr}{sc:Scope}
theorem Gq(LO:JT X.prog X.w X.K X.mg X.base k x fs)(hr:mv k' X.A)(i:Nat)(LI:ME X x y i pr bd sc pos)(ha:PL X e t) (hm:X.mg "sorted"=none) (hk:k+2<=k':=by decide) (hg:Gl X "sorted":=by rfl)
  (he:starEach [e] X.env=(false,eval e X.env)::starEach [] X.env:=by rfl) :
  PL X (.Call (.Name "sorted" p) [e] [⟨some "key",.Lambda pr bd sc pos,kpos⟩] cpos) (Ic fs i t):=by
 intro ab s σ H Pr Z k4 I E0 h;obtain⟨c0,P,tab,code⟩:=LI.tab;refine Ws (oI I hg hm (u:=.builtin "sorted") y_ ?_);refine callWith_kw (e:=e) (rest:=[]) (kws:=[⟨some "key",.Lambda pr bd sc pos,kpos⟩]) ?_ (by rw[he]; rfl) (by rw[he]; rfl) rfl rfl;rw[he];show wpAny _ _ (spliced ((false,eval e X.env)::backTo cpos (starEach [] X.env))) _ _ s;refine Calls.spliced_cons (Qb (ha ab s σ H Pr Z _ I E0 h) λu1 s1 hq=>?_);obtain⟨v1,H1,d,Z1,I1,rv1,E1,ns,g,rfl,h64,q1⟩:=EL.frz hq;refine Calls.spliced_nil ?_;obtain⟨dv,qi,hkey,q1⟩:=JV q1
 show wpAny _ _ (evalAll [(do let v <- eval (.Lambda pr bd sc pos) X.env;standAt cpos;pure v)]) _ _ s1
 obtain⟨c,hcl⟩:=I1.ok.has y (.inl LI.cel);have fr:∀z,(z,NameKind.free)∈sc.names->z=y:=λz hz=>by have:(z,NameKind.free)∈sc.names.filter λp=>p.2 == .free:=VG.mpr ⟨hz,rfl⟩;rw[LI.fre]at this;simpa using this
 have hm':(y,NameKind.free)∈sc.names:=by
  have:(y,NameKind.free)∈sc.names.filter λp=>p.2 == .free:=by rw[LI.fre];simp
  exact(VG.mp this).1
 have hclo:closureFor sc X.env=pure [(y,c)]:=by
  rw[oP λz hz hf=>by
   obtain⟨z1,z2⟩:=z;cases hf
   rw[fr z1 hz];exact⟨c,hcl⟩,Bh hcl _ _ LI.fre]
 refine wpAny_evalAll_cons (UL (Gm I1 LI.mem tab code LI.qual hclo LI.deft λfa c' oq H2 s2 ctv pm I2 ext gf nf zf zq co=>UL (wpAny_standAt (U0 ?_))));refine wpAny_evalAll_nil ?_;show wpAny (model X.prog X.w) X.A (call (.builtin "sorted") [u1] [(Str.ofString "key",.ref fa)]) _ _ s2;have nfa:Rx X ab fa:=I1.newer zf;generalize hfo:kla_obj "<lambda>" (uZ x) pr bd sc [(y,c)] pm c' ctv=fo at gf;have I3:P7 X ab σ (PY H2 fa (.frz fo (.own fa))) s2:=I2.track nf nfa.s0 nfa.loc nfa.cel nfa.pin ⟨gf,_,gf⟩;have up3:∀b o,H2 b=some o->PY H2 fa (.frz fo (.own fa)) b=some o:=λb o z=>by rw[aG (bD z nf)];exact z
 have E3:=(E1.exten ext).exten up3;obtain⟨_,e5,ra⟩:=E3.head_d;cases e5;have E4:=E3.tail;obtain⟨sv,hsl,v',rfl,rd⟩:=E4.slot qi;obtain⟨_,_,rfl,hz,rs⟩:=QM.inv_lst ra;have evs:=qO rs;subst evs;cases rv1;obtain⟨its,r',pl,hzz⟩:=I3.list hz.l;have hi:=A9 r';have b0:=hi.length;refine Cf (kz:=ns.map g) I3 pl.isList (by rw[UN];exact b0.symm) xL (λkS a nk na j v kv hv hkv s' J=>?_) λa s' out cc na J ga ko=>?_
 .
  obtain⟨H',I',up,n1,n2,⟨ok1,gk1⟩,⟨ok2,gk2⟩⟩:=J;have hj:j<ns.length:=by have:=(k5.mp hkv).1;simpa using this
  have ekv:kv=g ns[j]:=by rw[UU,fI hj]at hkv;exact(U6 hkv).symm
  obtain⟨en,ev⟩:=vW hi;obtain⟨tv,hv2⟩:=ev v (We hv)
  have ejn:vf v=ns[j]:=by
   have:(its.map vf)[j]?=ns[j]?:=by rw[en]
   rw[UU,hv,fI hj]at this;simpa using this
  obtain⟨m,_,hloc⟩:=I'.loc;obtain⟨u',rv',lk⟩:=hloc i y v' LI.at_i hsl (.inr (.inl LI.cel))
  obtain⟨oc,gc,dc⟩:s'.heap.IsCell c (some u'):=by
   rcases lk with⟨z,_⟩|⟨_,c2,e2,z⟩
   . rw[show X.env.kindOf y=some .cell from LI.cel]at z;cases z
   . rw[hcl]at e2;cases e2;exact z
  have nc:H' c=none:=(I'.freeC y c hcl).resolve_right λz=>by rw[LI.fn]at z;exact absurd z.1 xp
  have la:MC X.K H' s'.heap fa x dv:=by refine⟨c,c',oc,oq,y,pr,bd,sc,pos,pm,ctv,u',v',LI.lam,?_,(I'.hok c' _ (up _ _ (up3 _ _ zq))).1,co,gc,.inl nc,dc,rv',hm',rd.pres λb o _ z=>up b o z⟩;rw[hfo];exact(I'.hok fa _ (up _ _ bC)).1
  have rr:mv k X.A.in1.in1:=mv.in1 (mv.in1 (hr.mono (j:=k+2) hk));have hfs:=hkey ns[j] (UO hj);refine wpAny_call (codeAny_mono (LO.run X.A.in1.in1 X.stack s' H' fa v (.int ns[j]) (.int ns[j]) dv (λz=>z=.int (g ns[j])) rr I'.env0.in1.in1 ⟨tv,by rw[hv2,ejn]⟩ (.int _) la hfs) λres s'' hres=>?_)
  cases res with
  |error ee=>exact(show False from hres).elim
  | ok fl =>
   cases fl with
   | ret u2 =>
    obtain⟨v3,H3,os,bare,un,hok,rv3,ext3,z,rz,pz⟩:=hres;subst pz;obtain rfl:=QM.inv_int rz;obtain⟨t3,rfl⟩:=rv3;have I4:P7 X ab σ H3 s'':=I'.call' (ch:=[]) os un hok bare (λb z=>absurd z x_);have kk1:∀o,s'.heap.get? kS=some o->s''.heap.get? kS=some o:=λo z=>un.keep kS o z n1 (nk.nofs I') x_;have kk2:∀o,s'.heap.get? a=some o->s''.heap.get? a=some o:=λo z=>un.keep a o z n2 (na.nofs I') x_;exact⟨t3,by rw[ekv],⟨H3,I4,λb o z=>ext3 b o (up b o z),un.free kS ok1 gk1 n1 x_,un.free a ok2 gk2 n2 x_,⟨ok1,kk1 _ gk1⟩,⟨ok2,kk2 _ gk2⟩⟩,kk1,kk2⟩
   |next=>exact False.elim hres
   |brk=>exact False.elim hres
   |cont=>exact False.elim hres
 .
  obtain⟨H',I',up,n2⟩:=J;obtain⟨op,os,ov⟩:=Gp hi ko;have lo:(out.toList.map vf).length=ns.length:=op.length_eq;have I5:P7 X ab σ (PY H' a (.lst ((out.toList.map vf).map V.int))) s':=by refine I'.track n2 na.s0 na.loc na.cel na.pin ⟨?_,out.toList,cc,ov,by simpa using ga⟩;rw[UN,lo];exact UT (WJ h64) xp
  exact⟨.ref a,_,.own a ((out.toList.map vf).map .int),Z1,I5,rfl,(E4.exten up).cons_own n2 (sO _),q1 a _ op os⟩
end
theorem MH{P:Program}{w:World}{K:Frag}{mg:Str->Option Value}{base:Heap}{x qual:Str}{st:Stmt}{f:Addr}{fd:FuncData}{N ps:List Str}{k:Nat}{fs:FS}(F:QK K x qual st f fd)(S:aE N ps (au st))(t:W Fl)
  (hbody:∀(cdv:Value)(A:Around)(outer:List Env)(s:Shared)(H:Hp)(E:XK),fd.code=cdv->mv k (A.deeper (envOfC qual (au st) s.heap.objs.size f cdv))->QR (HK CX0 P w K mg base N qual (au st) f cdv A outer s H E).nox (gA st) t)
  (h:∀ls k4,ls.length=ps.length->fs ls k4->t (ls++List.replicate (N.length-ps.length) .un) (aY ls k4)):FnOk P w K mg base CX0 (k+1) f fd ps (spF K ps.length fs):=by
 obtain⟨oc,od,kV,doc,pm,an,cdv,ct,osl,rfl,lk,hcd⟩:=F.ex;refine Lu lk hcd S (λvs H Q E q=>q.1) λA outer s H vs Q E hr q=>?_;obtain⟨hl,Pr,ls,k4,E0,hf,q⟩:=q;refine⟨_,(hbody cdv A outer s H E rfl hr).pss.nox,bE H ls,ls++List.replicate (N.length-ps.length) .un,aY ls k4,?_,h ls k4 (by rw[<- hl];have:=E0.len;simpa using this.symm) hf,λσ' H' Z' E' p=>?_,λ_ _ _ _ p=>p.elim,λ_ _ _ _ p=>p.elim,λv τ H' r Z' E' p=>?_⟩
 . unfold uz;rw[hl];exact E0.wide.uns _
 . obtain⟨ls',B,p⟩:=p;exact q .non H' (.d .non) ls' (rO E0 (E'.cons_d .non) B) p
 . obtain⟨ls',B,p⟩:=p;exact q v H' r ls' (rO E0 E' B) p
end L2
namespace L2
open PySem PySem.W
section
variable{X:Cx}{es:List Expr}{pos:Pos}
def JW(i:Nat)(t:W (List L)):W L:=λZ k4=>t Z λls Z1=>ls.length<=sizeLine/\ls[0]?=some .un/\K6 Z1[i]? i Z1 λl Z2=>(∃a ys,l=.own a ys)/\k4 (.bx none (l::ls.tail)) Z2
theorem JX {x1} (i:Nat) {bs:List (Option Nat)} {t:W (List L)} (h:QO X es (some i::bs) t):PL X (.Tuple es x1 pos) (JW i t):=by
 intro ab s σ H Pr Z k4 I E hq;refine wpAny_Tuple_spliced (Qb (h pos ab s σ H Pr Z _ I E hq) λus s1 ⟨vs,H1,ls,Z1,I1,r,hl,hb,E1,hv,z,z0,q⟩=>?_);refine⟨by rw[<- r.length,hl];exact z,?_⟩
 cases qi:Z1[i]? with
 |none=>rw[qi]at q;exact q.elim
 |some l =>
 rw[qi]at q
 cases l with
 |un=>exact q.elim
 |dic _ _=>exact q.elim
 |d y=>obtain⟨⟨_,_,z⟩,_⟩:=q;cases z
 |bx _ _=>obtain⟨⟨_,_,z⟩,_⟩:=q;cases z
 |own a ys =>
 obtain⟨_,q⟩:=q;obtain⟨_,v,hv1,hv2⟩:=hv 0 i rfl
 cases ls with
 |nil=>cases z0
 |cons l ls =>
 cases vs with
 |nil=>simp at hl
 |cons w vs =>
 have hl':vs.length=ls.length:=by simpa using hl
 have E2:aF X.K Pr H1 (vs.map some++σ) (ls++Z1):=aF.tail (v:=some w) (l:=l) E1;have qi2:(ls++Z1)[ls.length+i]?=some (.own a ys):=by rw[Vb (Wo _ _),Vj];exact qi
 have wv:w=v:=by simpa using hv1
 subst wv;have hs2:(vs.map some++σ)[ls.length+i]?=some (some w):=by rw[Vb (by rw[UN,hl'];exact Wo _ _),UN,hl',Vj];exact hv2
 have E3:=E2.outL qi2 hs2;rw[Wx _ _ (Wo _ _),Vj]at E3;have hf:H1 s1.heap.objs.size=none:=I1.hok.fresh (US _);have E4:aF X.K Pr (PY H1 s1.heap.objs.size (.tup (w::vs))) ((w::vs).map some++σ) ((.own a ys::ls)++Z1.set i .un):=aF.new E3 hf;have hl2:(w::vs).length=(L.own a ys::ls).length:=by simpa using hl'
 refine⟨.ref s1.heap.objs.size,PY H1 s1.heap.objs.size (.tup (w::vs)),_,Z1.set i .un,I1.laid (t':=s1.toks) (λb u e=>tu _ e) (US _) ?_,rfl,E4.closeT hl2 (Qf.of bC),q⟩;exact⟨by rw[hl];exact z,us,r,⟨_,U3 _ rfl,rfl,_,rfl⟩⟩
end
end L2
namespace L2
open PySem PySem.Spec PyProof.Rows PySem.SeqAt
structure OV (d:D):Prop where
 ok:RA d=true
 sh:b9 d=true
 dp:(Q5 d).depth<=40
 sg:xS d<=16777216
theorem OV.len{d:D}(h:OV d):(Q5 d).shown.length<=sizeLine:=by
 have e:sizeLine=16777216:=by decide
 rw[e];exact UT (Bf d (sY d h.ok h.sh)) h.sg
end L2
namespace L2
open PySem PySem.Spec PyProof.Rows
def RE(o q:Option L)(i j:Nat)(t:W L)(Z:Ev)(k4:L->Ev->Prop):Prop:=match o,q with
 |some (.own _ xs),some (.own b _)=>i≠j/\fj i Z=true/\t (Z.set i (.d (.lst xs))) λr Z'=>mJ r=true/\∃zs,uF zs=true/\Z'=(Z.set i (.d (.lst xs))).set j (.own b zs)/\k4 r (Z.set j (.own b zs))
 |_,_=>False
theorem JY(a b:Addr)(xs ys:List D)(i j:Nat)(t:W L)(Z:Ev)(k4:L->Ev->Prop):RE (some (.own a xs)) (some (.own b ys)) i j t Z k4=(i≠j/\fj i Z=true/\t (Z.set i (.d (.lst xs))) λr Z'=>mJ r=true/\∃zs,uF zs=true/\Z'=(Z.set i (.d (.lst xs))).set j (.own b zs)/\k4 r (Z.set j (.own b zs))):=rfl
def Pp(o:Option L)(Z:Ev)(k4:Bool->Ev->Prop):Prop:=match o with
 |some (.d (.lst xs))=>k4 (!xs.isEmpty) Z
 |_=>False
theorem Gr(xs:List D)(Z:Ev)(k4:Bool->Ev->Prop):Pp (some (.d (.lst xs))) Z k4=k4 (!xs.isEmpty) Z:=rfl
end L2
namespace HT
open PySem PySem.Spec PyProof.Rows
end HT
namespace L2
open PySem PySem.Spec PyProof.Rows
end L2
namespace L2
open PySem PySem.Spec PyProof.Rows PySem.W
end L2
namespace L2
open PySem PySem.Spec PyProof.Rows PySem.SeqAt
end L2
namespace PySem
open PySem.Spec
namespace F
end F
end PySem
namespace L2
open PySem PySem.Spec PyProof.Rows PySem.W
section
variable{key:Nat->Int}{n:Nat}{I:Shared->Prop}{cmp:Nat->Nat->(Bool->Shared->Prop)->Shared->Prop}
def iu(I:Shared->Prop)(cmp:Nat->Nat->(Bool->Shared->Prop)->Shared->Prop){α:Type}(t:KasT α)(P:α->Prop):Prop:=∀(Q:α->Shared->Prop)(s:Shared),I s->(∀a s',I s'->P a->Q a s')->t.kasWp cmp Q s
def DO(key:Nat->Int)(n:Nat)(I:Shared->Prop)(cmp:Nat->Nat->(Bool->Shared->Prop)->Shared->Prop):Prop:=∀(i j:Nat)(C:Bool->Shared->Prop)(s:Shared),i<n->j<n->i≠j->I s->(∀s',I s'->C (decide (key i<key j)) s')->cmp i j C s
noncomputable def kk(key:Nat->Int)(p:Array Nat)(i:Nat):Int:=key (p.getD i 0)
structure iK (n:Nat) (p:Array Nat):Prop where
 sz:p.size=n
 pm:p.toList.Perm (List.range n)
def RF(key:Nat->Int)(p:Array Nat)(m:Nat):Prop:=∀i j,i<j->j<m->kk key p i<kk key p j
def RG(key:Nat->Int)(p:Array Nat)(m:Nat):Prop:=∀i j,i<j->j<m->kk key p j<kk key p i
theorem iK.lt{p:Array Nat}(g:iK n p){i:Nat}(h:i<n):p.getD i 0<n:=by
 have hs:i<p.size:=by rw[g.sz];exact h
 have e:p.getD i 0=p[i]:=by simp[Array.getD,hs]
 rw[e];exact Vd.mp (g.pm.mem_iff.mp (by rw[<- Array.getElem_toList];exact UO _))
theorem iK.ne{p:Array Nat}(g:iK n p){i j:Nat}(hi:i<n)(hj:j<n)(h:i≠j):p.getD i 0≠p.getD j 0:=by
 have hs:i<p.size:=by rw[g.sz];exact hi
 have ht:j<p.size:=by rw[g.sz];exact hj
 have nd:p.toList.Nodup:=g.pm.nodup_iff.mpr List.nodup_range;have e1:p.getD i 0=p.toList[i]'(by simpa using hs):=by simp[Array.getD,hs]
 have e2:p.getD j 0=p.toList[j]'(by simpa using ht):=by simp[Array.getD,ht]
 rw[e1,e2];intro z;exact h ((List.getElem_inj nd).mp z)
theorem iu.ret{α:Type}{a:α}{P:α->Prop}(h:P a):iu I cmp (.ret a) P:=λQ s hi hq=>hq a s hi h
theorem iu.ask{α:Type}{i j:Nat}{k:Bool->KasT α}{P:α->Prop}(hc:DO key n I cmp)(hi:i<n)(hj:j<n)(hn:i≠j)(h1:key i<key j->iu I cmp (k true) P)(h2:¬key i<key j->iu I cmp (k false) P):iu I cmp (.ask i j k) P:=λQ s hI hq=>by
 refine hc i j _ s hi hj hn hI λs' hI'=>?_;by_cases c:key i<key j
 . rw[UX c];exact h1 c Q s' hI' hq
 . rw[UM c];exact h2 c Q s' hI' hq
theorem iu.bind{α β:Type}{t:KasT α}{f:α->KasT β}{P:α->Prop}{R:β->Prop}(h:iu I cmp t P)(hf:∀a,P a->iu I cmp (f a) R):iu I cmp (t.bind f) R:=λQ s hI hq=>by rw[KasT.kasWp_bind];exact h _ s hI λa s' hI' ha=>hf a ha Q s' hI' hq
theorem iu.mono{α:Type}{t:KasT α}{P R:α->Prop}(h:iu I cmp t P)(hr:∀a,P a->R a):iu I cmp t R:=λQ s hI hq=>h Q s hI λa s' hI' ha=>hq a s' hI' (hr a ha)
theorem iu.at{α:Type}{p:Array Nat}{i j:Nat}{k:Bool->KasT α}{P:α->Prop}(hc:DO key n I cmp)(hq:∀a b,a<n->b<n->key a=key b->a=b)(g:iK n p)(hi:i<n)(hj:j<n)(hn:i≠j)(h1:kk key p i<kk key p j->iu I cmp (k true) P)(h2:kk key p j<kk key p i->iu I cmp (k false) P):iu I cmp (.ask (p.getD i 0) (p.getD j 0) k) P:=by refine iu.ask hc (g.lt hi) (g.lt hj) (g.ne hi hj hn) h1 λc=>h2 ?_;have:kk key p i≠kk key p j:=λz=>g.ne hi hj hn (hq _ _ (g.lt hi) (g.lt hj) z);unfold kk at this ⊢;omega
theorem DP(hc:DO key n I cmp)(hq:∀a b,a<n->b<n->key a=key b->a=b){p:Array Nat}(g:iK n p):∀(f m:Nat),1<=m->m+f<=n->RF key p m->iu I cmp (kas_asc p f m) λr=>m<=r/\r<=m+f/\RF key p r/\(r=m+f∨kk key p r<kk key p (r-1))
 |0,m,_,_,u=>iu.ret ⟨US _,US _,u,.inl rfl⟩
 | f+1,m,h1,h2,u=>by
  show iu I cmp (.ask (p.getD m 0) (p.getD (m-1) 0) _) _;refine iu.at hc hq g xL xL xL (λc=>?_) λc=>?_
  . rw[if_pos rfl];exact iu.ret ⟨US _,xL,u,.inr c⟩
  .
   rw[if_neg (by decide)]
   have u':RF key p (m+1):=λi j hij hj=>by
    by_cases e:j=m
    .
     subst e;by_cases e2:i=j-1
     . subst e2;exact c
     . exact Int.lt_trans (u i (j-1) xL xL) c
    . exact u i j hij xL
   refine(DP hc hq g f (m+1) xL xL u').mono λr hr=>⟨xL,xL,hr.2.2.1,?_⟩;rcases hr.2.2.2 with e|e
   . exact .inl xL
   . exact .inr e
theorem DQ(hc:DO key n I cmp)(hq:∀a b,a<n->b<n->key a=key b->a=b){p:Array Nat}(g:iK n p):∀(f m:Nat),1<=m->m+f<=n->RG key p m->iu I cmp (kas_desc f p m 0) λr=>r.1=p/\m<=r.2.1/\r.2.1<=m+f/\r.2.2=0/\RG key p r.2.1
 |0,m,_,_,u=>iu.ret ⟨rfl,US _,US _,rfl,u⟩
 | f+1,m,h1,h2,u=>by
  show iu I cmp (.ask (p.getD m 0) (p.getD (m-1) 0) _) _;refine iu.at hc hq g xL xL xL (λc=>?_) λc=>?_
  .
   rw[if_pos rfl,if_neg (by omega)]
   have u':RG key p (m+1):=λi j hij hj=>by
    by_cases e:j=m
    .
     subst e;by_cases e2:i=j-1
     . subst e2;exact c
     . exact Int.lt_trans c (u i (j-1) xL xL)
    . exact u i j hij xL
   exact(DQ hc hq g f (m+1) xL xL u').mono λr hr=>⟨hr.1,xL,xL,hr.2.2.2.1,hr.2.2.2.2⟩
  . rw[if_neg (by decide)];refine iu.at hc hq g xL xL xL (λ_=>?_) λz=>absurd c xL;rw[if_pos rfl];exact iu.ret ⟨rfl,US _,by show m<=m+(f+1);omega,rfl,u⟩
theorem tj{p q:Array Nat}{i j:Nat}(h:p[i]?=q[j]?):p.getD i 0=q.getD j 0:=by rw[Array.getD_eq_getD_getElem?,Array.getD_eq_getD_getElem?,h]
theorem Ie{p:Array Nat}{m:Nat}(hm:m<=p.size)(i:Nat):kk key (kas_rev p 0 m) i=if i<m then kk key p (m-1-i)else kk key p i:=by
 have e:=getElem?_mirror_all (xs:=p) (i:=0) (j:=m) hm i;unfold kk kas_rev;by_cases h:i<m
 . rw[if_pos ⟨Vv _,h⟩]at e;rw[if_pos h,tj e,Nat.zero_add]
 . rw[if_neg (by omega)]at e;rw[if_neg h,tj e]
theorem iK.of{p q:Array Nat}(g:iK n p)(h:q.Perm p):iK n q:=⟨h.size_eq.trans g.sz,h.toList.trans g.pm⟩
theorem JZ(hc:DO key n I cmp)(hq:∀a b,a<n->b<n->key a=key b->a=b){p:Array Nat}(g:iK n p){m:Nat}(h1:1<=m)(h2:m<=n)(d:RG key p m):iu I cmp (kas_tail3 m n p) λr=>iK n r.2/\1<=r.1/\r.1<=n/\RF key r.2 r.1:=by
 have g':iK n (kas_rev p 0 m):=g.of (mirror_perm _ _ _ _);have u:RF key (kas_rev p 0 m) m:=λi j hij hj=>by rw[Ie (by rw[g.sz];exact h2),Ie (by rw[g.sz];exact h2),if_pos (by omega),if_pos hj];exact d _ _ xL xL
 unfold kas_tail3;exact(DP hc hq g' (n-m) m h1 xL u).bind λr hr=>iu.ret ⟨g',by show 1<=r;omega,by show r<=n;omega,hr.2.2.1⟩
theorem zK(hc:DO key n I cmp)(hq:∀a b,a<n->b<n->key a=key b->a=b){p:Array Nat}(g:iK n p){m:Nat}(h2:m+1<=n)(d:RG key p (m+1)):iu I cmp (kas_descPart m n p) λr=>iK n r.2/\1<=r.1/\r.1<=n/\RF key r.2 r.1:=by unfold kas_descPart;refine(DQ hc hq g (n-(m+1)) (m+1) xL xL d).bind λr hr=>?_;obtain⟨e1,e2,e3,e4,e5⟩:=hr;rw[e4,if_neg (by omega),e1];exact JZ hc hq g xL xL e5
theorem Gs(hc:DO key n I cmp)(hq:∀a b,a<n->b<n->key a=key b->a=b){p:Array Nat}(g:iK n p)(hn:1<=n):iu I cmp (kas_count n p) λr=>iK n r.2/\1<=r.1/\r.1<=n/\RF key r.2 r.1:=by
 unfold kas_count;refine(DP hc hq g (n-1) 1 (US _) xL λi j hij hj=>by omega).bind λm hm=>?_;obtain⟨m1,m2,u,e⟩:=hm;by_cases em:m=n
 . rw[if_pos (by simp[em])];exact iu.ret ⟨g,m1,by show m<=n;omega,u⟩
 .
  rw[if_neg (by simp[em])];by_cases h1:m > 1
  . rw[if_pos h1];refine iu.at hc hq g xL xL xL (λ_=>?_) λc=>absurd (u 0 (m-1) xL xL) xL;rw[if_pos rfl];exact iu.ret ⟨g,m1,by show m<=n;omega,u⟩
  .
   rw[if_neg h1];have e1:m=1:=by omega
   subst e1;refine zK hc hq g xL λi j hij hj=>?_;have:i=0/\j=1:=by omega
   obtain⟨rfl,rfl⟩:=this;rcases e with e|e
   . omega
   . exact e
theorem vX(hc:DO key n I cmp)(hq:∀a b,a<n->b<n->key a=key b->a=b){p:Array Nat}(g:iK n p){k:Nat}(hk:k<n):∀(f l r:Nat),l<=r->r<=k->r-l<=f->(∀i,i<l->kk key p i<kk key p k)->(∀i,r<=i->i<k->kk key p k<kk key p i)->RF key p k ->
  iu I cmp (kas_place p k f l r) λl=>l<=k/\(∀i,i<l->kk key p i<kk key p k)/\∀i,l<=i->i<k->kk key p k<kk key p i
 | 0,l,r,a,b,c,d,e,u=>by
  have:l=r:=by omega
  subst this;exact iu.ret ⟨b,d,e⟩
 | f+1,l,r,a,b,c,d,e,u=>by
  unfold kas_place;by_cases h:l≥r
  .
   rw[if_pos h];have:l=r:=by omega
   subst this;exact iu.ret ⟨b,d,e⟩
  .
   rw[if_neg h];refine iu.at hc hq g hk xL xL (λz=>?_) λz=>?_
   .
    rw[if_pos rfl];refine vX hc hq g hk f l ((l+r) / 2) xL xL xL d (λi h1 h2=>?_) u;by_cases e1:i=(l+r) / 2
    . rw[e1];exact z
    . exact Int.lt_trans z (u _ _ xL h2)
   .
    rw[if_neg (by decide)];refine vX hc hq g hk f ((l+r) / 2+1) r xL b xL (λi h1=>?_) e u;by_cases e1:i=(l+r) / 2
    . rw[e1];exact z
    . exact Int.lt_trans (u _ _ xL xL) z
theorem Ig{p:Array Nat}{k l:Nat}(hk:k<p.size)(hl:l<=k)(i:Nat):kk key (bubble p k (k-l)) i=if i=l then kk key p k else if l<i/\i<=k then kk key p (i-1)else kk key p i:=by
 have e:=getElem?_bubble (xs:=p) hk (k-l) xL i;rw[show k-(k-l)=l by omega]at e;unfold kk;by_cases h1:i=l
 . rw[if_pos h1]at e ⊢;rw[tj e]
 .
  rw[if_neg h1]at e ⊢;by_cases h2:l<i/\i<=k
  . rw[if_pos h2]at e ⊢;rw[tj e]
  . rw[if_neg h2]at e ⊢;rw[tj e]
theorem Ih(hc:DO key n I cmp)(hq:∀a b,a<n->b<n->key a=key b->a=b):∀(f:Nat)(p:Array Nat)(k:Nat),iK n p->k+f<=n->RF key p k->iu I cmp (kas_bin f p k) λq=>iK n q/\RF key q (k+f)
 |0,p,k,g,_,u=>iu.ret ⟨g,u⟩
 | f+1,p,k,g,h,u=>by
  unfold kas_bin;refine(vX hc hq g (show k<n by omega) k 0 k xL xL xL (λi hi=>by omega) (λi h1 h2=>by omega) u).bind λl hl=>?_;obtain⟨l1,l2,l3⟩:=hl
  have u':RF key (bubble p k (k-l)) (k+1):=λi j hij hj=>by
   have hs:k<p.size:=by rw[g.sz];omega
   rw[Ig hs l1,Ig hs l1];by_cases a:i=l
   . rw[if_pos a,if_neg (by omega),if_pos ⟨xL,xL⟩];exact l3 _ xL xL
   .
    rw[if_neg a];by_cases b:j=l
    . rw[if_pos b,if_neg (by omega)];exact l2 _ xL
    .
     rw[if_neg b];by_cases c:l<i/\i<=k
     . rw[if_pos c,if_pos ⟨xL,xL⟩];exact u _ _ xL xL
     .
      rw[if_neg c];by_cases d:l<j/\j<=k
      . rw[if_pos d];exact u _ _ xL xL
      . rw[if_neg d];exact u _ _ hij xL
  exact(Ih hc hq f _ (k+1) (g.of (bubble_perm _ _ _)) xL u').mono λq hq'=>⟨hq'.1,by rw[show k+(f+1)=k+1+f by omega];exact hq'.2⟩
theorem J1(hc:DO key n I cmp)(hq:∀a b,a<n->b<n->key a=key b->a=b)(hn:1<=n):iu I cmp (kas_sort n) λp=>iK n p/\RF key p n:=by
 unfold kas_sort;refine(Gs hc hq (p:=(List.range n).toArray) ⟨x_,x_⟩ hn).bind λr hr=>?_;obtain⟨g,r1,r2,u⟩:=hr;by_cases h:r.1<n
 .
  rw[if_pos h];have e:max r.1 1=r.1:=by omega
  rw[e];refine(Ih hc hq (n-r.1) r.2 r.1 g xL u).mono λq hq'=>⟨hq'.1,?_⟩;have:=hq'.2;rwa [show r.1+(n-r.1)=n by omega]at this
 . rw[if_neg h];refine iu.ret ⟨g,?_⟩;rwa [show r.1=n by omega]at u
end
section
variable{prog:Program}{w:World}{A:Around}{E:Value->Shared->Prop}{s:Shared}
theorem Gu{a:Addr}{vs:List Value}{n:Nat}{P:PySem.Fin->Shared->Prop} (ho:s.heap.get? a=some (seqObj "list" vs.toArray n)) (h2:vs.length < 2)
  (h:∀ h' c,h'.get? a=some (seqObj "list" vs.toArray c)->(∀ b o,b≠a->s.heap.get? b=some o->h'.get? b=some o)->P (.done (.ret .none)) {s with heap:=h' }) :
  wpAny (model prog w) A (Builtin.«list.sort» ⟨[.ref a],[]⟩) P E s:=by
 rw[list_sort_plain];have la:a<s.heap.objs.size:=UR ho;have hz:vs.toArray.size<2:=by simpa using h2
 have sa:=Heap.SameBut.update s.heap a (Obj.mapSeq λ_=>(#[]:Array Value));obtain⟨e1,o1⟩:∃ e1,(s.heap.update a (Obj.mapSeq λ_=>(#[]:Array Value))).get? a=some (seqObj "list" #[] e1):=⟨_,get?_update_seq ho λ_=>#[]⟩;refine UL (listItems_at ho rfl (UL (listUpdate_at ho rfl ?_ (by rw[Wh];omega) (Vv _))));refine UL (seqEpoch_at o1 rfl (UL (wpAny_newTuple ?_ (by show vs.length<=_;rw[Wh];omega))));refine UL (wpAny_newList (V0 ?_) (Vv _));have o6:(((s.heap.update a (Obj.mapSeq λ_=>#[])).push (seqObj "tuple" vs.toArray 0)).push (seqObj "list" #[] 0)).get? a=some (seqObj "list" #[] e1):=tu _ (tu _ o1);show wpAny (model prog w) A _ P E {s with heap:=((s.heap.update a (Obj.mapSeq λ_=>#[])).push (seqObj "tuple" vs.toArray 0)).push (seqObj "list" #[] 0) };dsimp only;rw[if_pos hz,if_pos hz];refine UL (U0 ?_);rw[StateT.run_pure];refine UL (U0 ?_);dsimp only;have hv:(vs.toArray.zip vs.toArray).map (λx=>x.2)=vs.toArray:=by apply Array.toList_inj.mp;simp[List.map_snd_zip]
 refine UL (seqEpoch_at o6 rfl (UL (listUpdate_at o6 rfl ?_ (Vv _) ?_)))
 . simp only[bne_self_eq_false,V2,Wv];have sb:=Heap.SameBut.update (((s.heap.update a (Obj.mapSeq λ_=>#[])).push (seqObj "tuple" vs.toArray 0)).push (seqObj "list" #[] 0)) a (Obj.mapSeq λ_=>vs.toArray);have e0:(arrOf (SortSt.mk' general' (vs.toArray.zip vs.toArray) #[] 7 none)).map (λx=>x.2)=vs.toArray:=hv;rw[e0];refine U0 (h _ _ (get?_update_seq o6 λ_=>vs.toArray) λb o hb q=>(sb.2 b hb).trans ?_);exact tu _ (tu _ ((sa.2 b hb).trans q))
 . have e0:(arrOf (SortSt.mk' general' (vs.toArray.zip vs.toArray) #[] 7 none)).map (λx=>x.2)=vs.toArray:=hv;rw[e0,Wh];omega
theorem xU{l:Addr}{vs:List Value}{Q:Value->Shared->Prop}(hl:s.heap.IsList l vs.toArray)(h2:vs.length<64)
  (h:∀ a h1,s.heap.objs.size<=a->h1.get? a=some (seqObj "list" vs.toArray 0)->(∀ b o,s.heap.get? b=some o->h1.get? b=some o)->wpAny (model prog w) A.in1.in1 (Builtin.«list.sort» ⟨[.ref a],[]⟩) (λf s'=>f=.done (.ret .none)/\Q (.ref a) s') (λ_ _=>False) {s with heap:=h1}) :
  wpAny (model prog w) A (call (.builtin "sorted") [.ref l]) Q E s:=by
 refine Calls.call_function_entry kind_sorted plain_sorted entry_sorted (args_sorted1 _) ?_;unfold Builtin.«sorted»;refine UL (m:=checkCount "sorted" 1 1 _) (U0 ?_);refine UL (collect_list hl (UL (wpAny_newList ?_ (by rw[Wh];omega))) (by rw[Wh];omega));have hsz:((s.heap.push (seqObj "list" #[] 0)).update s.heap.objs.size (Obj.mapSeq (·++vs.toArray))).objs.size=s.heap.objs.size+1:=by rw[Heap.size_update,size_push']
 have oL:(((s.heap.push (seqObj "list" #[] 0)).update s.heap.objs.size (Obj.mapSeq (·++vs.toArray))).push (seqObj "list" vs.toArray 0)).get? (s.heap.objs.size+1)=some (seqObj "list" vs.toArray 0):=by rw[<- hsz];exact U3 _ rfl
 have keep:∀ b o,s.heap.get? b=some o->(((s.heap.push (seqObj "list" #[] 0)).update s.heap.objs.size (Obj.mapSeq (·++vs.toArray))).push (seqObj "list" vs.toArray 0)).get? b=some o:=λb o q=>by have lt:b<s.heap.objs.size:=UR q;rw[Heap.get?_push_ne _ _ _ (by rw[hsz];exact U7 (Nat.lt_succ_of_lt lt)),Heap.get?_update_ne _ _ _ _ (U7 lt),Heap.get?_push_ne _ _ _ (U7 lt)];exact q
 show wpAny _ _ _ _ _ {s with heap:=((s.heap.push (seqObj "list" #[] 0)).update s.heap.objs.size (Obj.mapSeq (·++vs.toArray))).push (seqObj "list" vs.toArray 0) };rw[hsz];refine UL (V0 (wpAny_call_entry slot_list_sort ⟨_,oL,rfl⟩ entry_list_sort (V7 (h _ _ (Nat.le_succ _) oL keep) (λf s1 ⟨e,q⟩=>?_) λ_ _ z=>z.elim) (args_list_sort _)));subst e;exact⟨_,rfl,U0 ⟨_,rfl,q⟩⟩
end
section
variable{X:Cx}{ab:List (Addr×Obj)}{σ:St}{H:Hp}{s:Shared}
def RH(K:Frag)(H:Hp)(v:V)(k:Int):Prop:=∃a y,v=.ref a/\Qf K H a [.int k,y]
theorem N8(I:P7 X ab σ H s){v:V}{u:Value}{k:Int}(h:RH X.K H v k)(r:cq v u):∃ a o t y n,u=.ref a/\s.heap.get? a=some o/\o.cls=.type "tuple"/\o.data=.seq #[.int k t,y] n:=by
 obtain⟨a,y,rfl,ht⟩:=h;cases r;obtain⟨its,rv,⟨o,e,c,n,d⟩,_⟩:=I.tuple ht
 cases rv with
 | cons h1 rv =>
  cases rv with
  | cons h2 rv =>
   cases rv;obtain⟨t,rfl⟩:=h1;exact⟨a,o,t,_,n,rfl,e,c,d⟩
theorem Ii{h:Heap}:∀(its:List Value)(key:Nat->Int),(∀ i (hi:i < its.length),∃ a o t y n,its[i]=.ref a/\h.get? a=some o/\o.cls=.type "tuple"/\o.data=.seq #[.int (key i) t,y] n)->∃ fs,KatTups h its fs/\fs.length=its.length/\∀ f∈fs,∃ k t,f=Value.int k t
 |[],_,_=>⟨[],KatTups.nil,rfl,x_⟩
 | v::its,key,hk=>by
  obtain⟨a,o,t,y,n,e1,e2,e3,e4⟩:=hk 0 x_;obtain⟨fs,f1,f2,f3⟩:=Ii its (λi=>key (i+1)) λi hi=>hk (i+1) (by simpa using hi);have e1:v=.ref a:=e1;subst e1;refine⟨.int (key 0) t::fs,KatTups.cons e2 e3 e4 rfl f1,by simp[f2],λf hf=>?_⟩;rcases UV.mp hf with rfl|hf
  . exact⟨_,_,rfl⟩
  . exact f3 f hf
theorem Cg(I:P7 X ab σ H s){p:Addr}{vs:List V}{key:Nat->Int}{Q:VK}(hq:Qe X.K H p vs)(h64:vs.length<64)(hk:∀i (h:i<vs.length),RH X.K H vs[i] (key i))(hj:∀a b,a<vs.length->b<vs.length->key a=key b->a=b)
  (h:∀(l:Addr)(q:List Nat),H l=none->q.Perm (List.range vs.length)->q.Pairwise (λi j=>key i<key j)->Q (.ref l) (PY H l (.lst (q.map λi=>vs.getD i .non)))) :
  wpAny (model X.prog X.w) X.A (call (.builtin "sorted") [.ref p]) (EP X ab σ Q) X.xe s:=by
 obtain⟨its,r,pl,hz⟩:=I.list hq;have b0:its.length=vs.length:=r.length.symm;have rel:∀i (h:i<vs.length),cq vs[i] (its[i]'(by omega)):=λi h=>by obtain⟨u,e1,e2⟩:=r.get (fI h);rw[fI xL]at e1;cases e1;exact e2
 have Qd:∀(l:Addr)(h':Heap)(c:Nat)(q:List Nat),s.heap.objs.size<=l->P7 X ab σ H {s with heap:=h' }->h'.get? l=some (seqObj "list" (q.map λi=>its.getD i .none).toArray c)->q.Perm (List.range vs.length)->q.Pairwise (λi j=>key i < key j)->EP X ab σ Q (.ref l) {s with heap:=h' }:=λl h' c q hl I' ho qp qs=>by
  have nw:=I.newer hl;have hn:H l=none:=I.hok.fresh hl
  have rv:cK (q.map λi=>vs.getD i .non) (q.map λi=>its.getD i .none):=by
   have hm:∀i∈q,i<vs.length:=λi hi=>Vd.mp (qp.mem_iff.mp hi);clear qp qs ho
   induction q with
   |nil=>exact .nil
   | cons i q ih =>
    refine .cons ?_ (ih λj hj=>hm j (gV _ hj));have hi:=hm i p4;have e1:vs.getD i .non=vs[i]:=by simp[hi]
    have e2:its.getD i Value.none=its[i]'(by omega):=by simp[show i<its.length by omega]
    show cq (vs.getD i .non) (its.getD i .none);rw[e1,e2];exact rel i hi
  have ql:q.length=vs.length:=by rw[qp.length_eq,Vc]
  exact⟨.ref l,_,I'.track hn nw.s0 nw.loc nw.cel nw.pin (show iH X.prog X.w _ _ _ (.lst (q.map λi=>vs.getD i .non))from⟨by rw[UN,ql];exact hz,_,c,rv,ho⟩),rfl,h l q hn qp qs⟩
 refine xU pl.isList xL λD h1 zD oD kD=>?_;by_cases h2:its.length<2
 .
  refine Gu oD h2 λh' c ho k=>⟨rfl,Qd D h' c (List.range vs.length) zD (I.kept λb o q=>k b o (U7 (so (UR q) zD)) (kD b o q)) ?_ (List.Perm.refl _) ?_⟩
  .
   have e:(List.range vs.length).map (λi=>its.getD i .none)=its:=by refine List.ext_getElem (by simp[b0]) λi h1 h2=>?_;simp[show i<its.length from h2]
   rw[e];exact ho
  . rw[List.pairwise_iff_getElem];intro i j hi hj' hij;rw[Vc]at hi hj';omega
 .
  obtain⟨m,hn,_⟩:=id I.loc;have F:Fr (Att.noObjs s.heap) X.env.locals s.heap m:=⟨hn,λb o z=>(by rw[Att.noObjs_get]at z;cases z),Vv _⟩;have hL:X.env.locals<s.heap.objs.size:=hn.lt;have lt:∀q∈pQ (Att.noObjs s.heap) s.heap X.env.locals,q.1<D:=λq hq=>so (UR (mF hq).2.2) zD;refine kat_list_sort (s:={s with heap:=h1}) (F.kept kD) (News.grown AJ kD) oD (Nat.ne_of_gt (so hL zD)) (Att.noObjs_get _ _) (λq hq=>U7 (lt q hq)) xL xL λe1 h' F' N'=>?_;have kp:∀b o,b≠X.env.locals->s.heap.get? b=some o->h'.get? b=some o:=λb o n0 q=>(N' (b,o) (.tail _ (nA n0 (Att.noObjs_get _ _) q))).1;have tp:∀ i (h:i < its.length),∃ a o t y n,its[i]=.ref a/\h'.get? a=some o/\o.cls=.type "tuple"/\o.data=.seq #[.int (key i) t,y] n:=λi h=>by obtain⟨a,o,t,y,n,e1,e2,e3,e4⟩:=N8 I (hk i xL) (rel i xL);refine⟨a,o,t,y,n,e1,kp a o (λz=>?_) e2,e3,e4⟩;subst z;obtain⟨o',es,ep,q1,q2,_⟩:=hn;rw[q1]at e2;cases e2;rw[q2]at e4;cases e4
  have nw:=I.newer zD;have hDn:H D=none:=I.hok.fresh zD;obtain⟨fs,ft,fl,fi⟩:=Ii its key tp;refine kat_kind (T:=.type "int") ft xL (λv hv=>?_) rfl ?_
  . obtain⟨k,t,rfl⟩:=fi v hv;exact Looks.of_pure rfl
  rw[show(Value.type "int" != Value.type "tuple")=true from rfl]
  have hc:DO key its.length (λs'=>s'={s with heap:=h' }) (kas_ask X.prog X.w X.A.in1.in1 (tuples' true) its):=λi j C s1 hi hj' hij e hC=>by
   subst e;obtain⟨a,o,t,y,n,e1,e2,e3,e4⟩:=tp i hi;obtain⟨b,o',t',y',n',f1,f2,f3,f4⟩:=tp j hj';have g1:its.getD i Value.none=.ref a:=by simp[hi,e1]
   have g2:its.getD j Value.none=.ref b:=by simp[hj',f1]
   unfold kas_ask;rw[g1,g2];have ne:key i≠key j:=λz=>hij (hj i j xL xL z);refine kat_lt (s:={s with heap:=h' }) e2 e4 f2 f4 ?_;show KatLex _ _ _ _ _ _ [(Value.int (key i) t,Value.int (key j) t'),(y,y')] 0 _;refine kat_cons (wpAny_eqBool_int ?_);rw[show(key i == key j)=false from beq_eq_false_iff_ne.mpr ne];exact kat_no (oneLt_int (hC _ rfl))
  refine J1 hc (λa b ha hb z=>hj a b xL xL z) xL _ _ rfl λp s1 es ⟨g,u⟩=>?_;subst es;refine KasFin.intro F' N' (.head λq hq=>U7 (lt q hq)) λh2 c F2 N2=>⟨rfl,?_⟩
  have qs:p.toList.Pairwise λi j=>key i<key j:=by
   rw[List.pairwise_iff_getElem];intro i j hi hj' hij;have hi':i<p.size:=by simpa using hi
   have hj2:j<p.size:=by simpa using hj'
   have:=u i j hij (by rw[<- g.sz];exact hj2);unfold kk at this;rw[show p.getD i 0=p[i] by simp[Array.getD,hi'],show p.getD j 0=p[j] by simp[Array.getD,hj2]]at this;simpa using this
  refine Qd D h2 c p.toList zD ?_ (N2 _ (.head _)).1 (by rw[<- b0];exact g.pm) qs;refine I.two (t':=s.toks) nw nw hDn hDn (λb o n0 n1 _ q=>(N2 (b,o) (.tail _ (nA n0 (Att.noObjs_get _ _) q))).1) λm2 hm2=>?_;have e1:=hm2.eq_nsMap;have e2:=hn.eq_nsMap;rw[e1,<- e2];exact F2.ns
theorem xV:kG X (.builtin "sorted") (λxs H Q=>∃(p:Addr)(vs:List V)(key:Nat->Int),xs=[.ref p]/\Qe X.K H p vs/\vs.length < 64/\(∀ i (h:i < vs.length),RH X.K H vs[i] (key i))/\(∀ a b,a < vs.length->b < vs.length->key a=key b->a=b) /\
  ∀(l:Addr)(q:List Nat),H l=none->q.Perm (List.range vs.length)->q.Pairwise (λi j=>key i<key j)->Q (.ref l) (PY H l (.lst (q.map λi=>vs.getD i .non)))):=by
 intro ab s σ H xs us Q I r h;obtain⟨p,vs,key,rfl,hq,h64,hk,hj,q⟩:=h;obtain⟨u,rfl,rx⟩:=sj r;cases rx;exact Cg I hq h64 hk hj q
end
noncomputable def RI(x:Int×D):D:=.tup [.int x.1,x.2]
def DS:Q7:=λds k=>∃ps:List (Int×D),ds=[.lst (ps.map RI)]/\ps.length<64/\(ps.map (·.1)).Nodup/\∀(a:Addr)(out:List (Int×D)),out.Perm ps->out.Pairwise (λx y=>x.1<y.1)->k (.own a (out.map RI))
theorem bO.at{K:Frag}{H:Hp}{vs:List V}{ds:List D}(r:bO K H vs ds){i:Nat}(h1:i<vs.length)(h2:i<ds.length):QM K H vs[i] ds[i]:=by obtain⟨v,e1,e2⟩:=r.get (fI h2);rw[fI h1]at e1;cases e1;exact e2
theorem Gv{X:Cx}:gM X (.builtin "sorted") DS:=gM.of xV λσ H Pr Z vs ds k4 E ps ⟨prs,e,h64,nd,h⟩=>by
 subst e;obtain⟨v,rfl,r⟩:=pT ps
 cases r with
 | @lst a ws _ hz rs =>
  have hl:ws.length=prs.length:=by simpa using rs.length
  refine⟨_,ws,λi=>(prs.getD i (0,.non)).1,rfl,hz.l,xL,λi hi=>?_,λa b ha hb z=>?_,λl q hn qp qs=>?_⟩
  .
   have hi':i<prs.length:=by omega
   have:=rs.at hi (by simpa using hi');rw[List.getElem_map]at this;have e:prs.getD i (0,.non)=prs[i]:=by simp[hi']
   show RH X.K H ws[i] (prs.getD i (0,.non)).1;rw[e]
   revert this
   generalize ws[i]=w;intro this;unfold RI at this;obtain⟨_,_,rfl,hs,rr⟩:=QM.inv_tup this
   cases rr with
   | cons r0 rr =>
    obtain rfl:=QM.inv_int r0
    cases rr with
    | cons r1 rr =>
     cases rr;exact⟨_,_,rfl,hs⟩
  .
   have ha':a<prs.length:=by omega
   have hb':b<prs.length:=by omega
   have e1:prs.getD a (0,.non)=prs[a]:=by simp[ha']
   have e2:prs.getD b (0,.non)=prs[b]:=by simp[hb']
   have z:(prs.getD a (0,.non)).1=(prs.getD b (0,.non)).1:=z;rw[e1,e2]at z;have:=(List.getElem_inj nd (i:=a) (j:=b) (h₀:=by simpa using ha') (h₁:=by simpa using hb')).mp (by simpa using z);exact this
  .
   have hm:∀i∈q,i<ws.length:=λi hi=>Vd.mp (qp.mem_iff.mp hi);have er:(List.range prs.length).map (λi=>prs.getD i (0,.non))=prs:=by refine List.ext_getElem x_ λi h1 h2=>?_;simp[show i<prs.length from h2]
   have op:(q.map λi=>prs.getD i (0,.non)).Perm prs:=by have:=qp.map λi=>prs.getD i (0,.non);rw[hl,er]at this;exact this
   have os:(q.map λi=>prs.getD i (0,.non)).Pairwise λx y=>x.1<y.1:=by rw[List.pairwise_map];exact qs
   have rr:bO X.K H (q.map λi=>ws.getD i .non) ((q.map λi=>prs.getD i (0,.non)).map RI):=by
    clear qp qs op os
    induction q with
    |nil=>exact .nil
    | cons i q ih =>
     have hi:=hm i p4;have hi':i<prs.length:=by omega
     refine .cons ?_ (ih λj hj=>hm j (gV _ hj));have:=rs.at hi (by simpa using hi');rw[List.getElem_map]at this;show QM X.K H (ws.getD i .non) (RI (prs.getD i (0,.non)));rw[show ws.getD i .non=ws[i] by simp[hi],show prs.getD i (0,.non)=prs[i] by simp[hi']];exact this
   exact⟨_,E.cons_own hn rr,h l _ op os⟩
end L2
namespace L2
open PySem
theorem cF{g:Tg}{b:W Fl}{k4:Fl->Ev->Prop}:∀(xs:List D)(I:Nat->Ev->Prop)(Z:Ev),I 0 Z ->
  (∀j x Z,xs[j]?=some x->I j Z->∀Q:Fl->Ev->Prop,(∀Z',I (j+1) Z'->Q .nx Z')->(∀Z',I (j+1) Z'->Q .ct Z')->(∀Z',k4 .nx Z'->Q .bk Z')->(∀r Z',k4 (.rt r) Z'->Q (.rt r) Z')->g x Z λZ1=>b Z1 Q) ->
  (∀Z,I xs.length Z->k4 .nx Z)->cu g b xs Z k4
 |[],I,Z,h0,_,Qd=>Qd Z h0
 | x::xs,I,Z,h0,step,Qd=>by
  unfold cu;refine step 0 x Z rfl h0 _ (λZ' h=>?_) (λZ' h=>?_) (λZ' h=>h) (λr Z' h=>h)
  . exact cF xs (λj=>I (j+1)) Z' h (λj y Z e hi=>step (j+1) y Z e hi) Qd
  . exact cF xs (λj=>I (j+1)) Z' h (λj y Z e hi=>step (j+1) y Z e hi) Qd
theorem ma{α:Type}{enc:α->D}{g:Tg}{b:W Fl}{k4:Fl->Ev->Prop}(as:List α)(I:List α->Ev->Prop)(Z:Ev)(h0:I [] Z)
  (step:∀pre a suf Z,as=pre++a::suf->I pre Z->∀Q:Fl->Ev->Prop,(∀Z',I (pre++[a]) Z'->Q .nx Z')->(∀Z',I (pre++[a]) Z'->Q .ct Z')->(∀Z',k4 .nx Z'->Q .bk Z')->(∀r Z',k4 (.rt r) Z'->Q (.rt r) Z')->g (enc a) Z λZ1=>b Z1 Q)
  (Qd:∀Z,I as Z->k4 .nx Z):cu g b (as.map enc) Z k4:=by
 refine cF _ (λj Z=>I (as.take j) Z) Z h0 (λj x Z e hi Q h1 h2 h3 h4=>?_) λZ h=>Qd Z (by simpa using h);rw[UU]at e
 cases ea:as[j]? with
 |none=>rw[ea]at e;cases e
 | some a =>
  rw[ea]at e;cases e;obtain⟨hj,ea'⟩:=k5.mp ea;have es:as.take (j+1)=as.take j++[a]:=by rw[List.take_succ,ea];rfl
  have ed:as=as.take j++a::as.drop (j+1):=by have:=(List.take_append_drop j as).symm;rw[Vi hj,ea']at this;exact this
  rw[es]at h1 h2;exact step _ a _ Z ed hi Q h1 h2 h3 h4
theorem vY{g:Tg}{ti:W Bool}{te:W L}{k:List D->Ev->Prop}:∀(xs:List D)(I:Nat->Ev->List D->Prop)(Z:Ev)(acc:List D),I 0 Z acc ->
  (∀j x Z acc,xs[j]?=some x->I j Z acc->∀Q:Ev->List D->Prop,(∀Z' acc',I (j+1) Z' acc'->Q Z' acc')->g x Z λZ1=>ti Z1 λb Z2=>if b=true then te Z2 λr Z3=>QS r λy=>Q Z3 (acc++[y])else Q Z2 acc) ->
  (∀Z acc,I xs.length Z acc->k acc Z)->eI g ti te xs Z acc k
 |[],I,Z,acc,h0,_,Qd=>Qd Z acc h0
 | x::xs,I,Z,acc,h0,step,Qd=>by unfold eI;exact step 0 x Z acc rfl h0 (λZ acc=>eI g ti te xs Z acc k) λZ' acc' h=>vY xs (λj=>I (j+1)) Z' acc' h (λj y Z acc e hi=>step (j+1) y Z acc e hi) Qd
theorem i8{α:Type}{enc:α->D}{h:α->Option D}{caps:Ev}{ti:W Bool}{te:W L}{k:List D->Ev->Prop}:∀(as:List α)(acc:List D)(l:L),
  (∀a∈as,∀Q:Ev->Option D->Prop,Q (.d (enc a)::caps) (h a)->ti (.d (enc a)::caps) λb Z2=>if b=true then te Z2 λr Z3=>QS r λy=>Q Z3 (some y)else Q Z2 none) ->
  (∀l',k (acc++as.filterMap h) (l'::caps))->eI (bj 0) ti te (as.map enc) (l::caps) acc k
 |[],acc,l,_,Qd=>by have:=Qd l;simpa[eI]using this
 | a::as,acc,l,step,Qd=>by
  show eI (bj 0) ti te (enc a::as.map enc) (l::caps) acc k;unfold eI;show ti (.d (enc a)::caps) _
  refine step a p4 (λZ o=>match o with|some y=>eI (bj 0) ti te (as.map enc) Z (acc++[y]) k|none=>eI (bj 0) ti te (as.map enc) Z acc k) ?_
  cases e:h a with
  |none=>exact i8 as acc _ (λb hb=>step b (gV _ hb)) (by simpa[Vz,e]using Qd)
  |some y=>exact i8 as (acc++[y]) _ (λb hb=>step b (gV _ hb)) (by simpa[Vz,e]using Qd)
theorem oU{α:Type}{enc:α->D}{h:α->D}{caps:Ev}{te:W L}{k:List D->Ev->Prop}(as:List α)(acc:List D)(l:L)
  (step:∀a∈as,∀Q:Ev->D->Prop,Q (.d (enc a)::caps) (h a)->te (.d (enc a)::caps) λr Z3=>QS r λy=>Q Z3 y)
  (Qd:∀l',k (acc++as.map h) (l'::caps)):eI (bj 0) kK te (as.map enc) (l::caps) acc k:=by
 refine i8 (h:=λa=>some (h a)) as acc l (λa ha Q q=>?_) (by simpa using Qd);simp only[kK,Ww];exact step a ha (λZ y=>Q Z (some y)) q
theorem p5{α:Type}{e1 e2:α->D}{h:α->Option D}{caps:Ev}{ti:W Bool}{te:W L}{k:List D->Ev->Prop}:∀(as:List α)(acc:List D)(l m:L),
  (∀a∈as,∀Q:Ev->Option D->Prop,Q (.d (e1 a)::.d (e2 a)::caps) (h a)->ti (.d (e1 a)::.d (e2 a)::caps) λb Z2=>if b=true then te Z2 λr Z3=>QS r λy=>Q Z3 (some y)else Q Z2 none) ->
  (∀l' m',k (acc++as.filterMap h) (l'::m'::caps))->eI (eY [0,1]) ti te (as.map λa=>D.tup [e1 a,e2 a]) (l::m::caps) acc k
 |[],acc,l,m,_,Qd=>by have:=Qd l m;simpa[eI]using this
 | a::as,acc,l,m,step,Qd=>by
  show eI (eY [0,1]) ti te (D.tup [e1 a,e2 a]::as.map λa=>D.tup [e1 a,e2 a]) (l::m::caps) acc k;unfold eI;show ti (.d (e1 a)::.d (e2 a)::caps) _
  refine step a p4 (λZ o=>match o with|some y=>eI (eY [0,1]) ti te (as.map λa=>D.tup [e1 a,e2 a]) Z (acc++[y]) k|none=>eI (eY [0,1]) ti te (as.map λa=>D.tup [e1 a,e2 a]) Z acc k) ?_
  cases e:h a with
  |none=>exact p5 as acc _ _ (λb hb=>step b (gV _ hb)) (by simpa[Vz,e]using Qd)
  |some y=>exact p5 as (acc++[y]) _ _ (λb hb=>step b (gV _ hb)) (by simpa[Vz,e]using Qd)
theorem xW{α:Type}{e1 e2:α->D}{h:α->D}{caps:Ev}{te:W L}{k:List D->Ev->Prop}(as:List α)(acc:List D)(l m:L)
  (step:∀a∈as,∀Q:Ev->D->Prop,Q (.d (e1 a)::.d (e2 a)::caps) (h a)->te (.d (e1 a)::.d (e2 a)::caps) λr Z3=>QS r λy=>Q Z3 y)
  (Qd:∀l' m',k (acc++as.map h) (l'::m'::caps)):eI (eY [0,1]) kK te (as.map λa=>D.tup [e1 a,e2 a]) (l::m::caps) acc k:=by
 refine p5 (h:=λa=>some (h a)) as acc l m (λa ha Q q=>?_) (by simpa using Qd);simp only[kK,Ww];exact step a ha (λZ y=>Q Z (some y)) q
theorem xX{α:Type}{x:α}{xs:List α}:Qz (x::xs) 0=some x:=nB (j:=0) rfl
theorem xY{α:Type}{x y:α}{xs:List α}:Qz (x::y::xs) 1=some y:=nB (j:=1) rfl
theorem Gw{α:Type}{x y z:α}{xs:List α}:Qz (x::y::z::xs) 2=some z:=nB (j:=2) rfl
theorem MI{α:Type}{x y z w:α}{xs:List α}:Qz (x::y::z::w::xs) 3=some w:=nB (j:=3) rfl
theorem N9{α:Type}{x y z w v:α}{xs:List α}:Qz (x::y::z::w::v::xs) 4=some v:=nB (j:=4) rfl
theorem Ij{α:Type}{xs:List α}{i:Int}{x:α}(h0:0<=i)(h:xs[i.toNat]?=some x):Qz xs i=some x:=by have:=nB h;rwa [Int.toNat_of_nonneg h0]at this
theorem a7{α:Type}{f:α->D}{xs:List α}{k:Nat}(h:k<xs.length):Qz (xs.map f) (k:Int)=some (f xs[k]):=nB (by rw[UU,fI h];rfl)
theorem Pq:Qy 3 0=some 0:=by decide
theorem Pu:Qy 3 1=some 1:=by decide
theorem Pv:Qy 3 2=some 2:=by decide
theorem me(n:Nat):zr 0 n=(List.range n).map λ(i:Nat)=>D.int (i:Int):=by unfold zr;simp
theorem Gx{g:Tg}{b:W Fl}{k4:Fl->Ev->Prop}(lo:Int)(n:Nat)(I:Nat->Ev->Prop)(Z:Ev)(h0:I 0 Z)
  (step:∀j Z,j<n->I j Z->∀Q:Fl->Ev->Prop,(∀Z',I (j+1) Z'->Q .nx Z')->(∀Z',I (j+1) Z'->Q .ct Z')->(∀Z',k4 .nx Z'->Q .bk Z')->(∀r Z',k4 (.rt r) Z'->Q (.rt r) Z')->g (.int (lo+(j:Int))) Z λZ1=>b Z1 Q)
  (Qd:∀Z,I n Z->k4 .nx Z):cu g b (zr lo n) Z k4:=by
 have hl:(zr lo n).length=n:=by simp[zr]
 refine cF _ I Z h0 (λj x Z hj hi Q h1 h2 h3 h4=>?_) λZ h=>Qd Z (by rwa [hl]at h);have hj':j<n:=by rw[<- hl];exact(k5.mp hj).1
 have e:x=.int (lo+(j:Int)):=by unfold zr at hj;rw[UU,VI hj']at hj;exact(U6 hj).symm
 subst e;exact step j Z hj' hi Q h1 h2 h3 h4
theorem DT{g:Tg}{b:W Fl}{k4:Fl->Ev->Prop}(n:Nat)(I:Nat->Ev->Prop)(Z:Ev)(h0:I 0 Z)
  (step:∀j Z,j<n->I j Z->∀Q:Fl->Ev->Prop,(∀Z',I (j+1) Z'->Q .nx Z')->(∀Z',I (j+1) Z'->Q .ct Z')->(∀Z',k4 .nx Z'->Q .bk Z')->(∀r Z',k4 (.rt r) Z'->Q (.rt r) Z')->g (.int (j:Int)) Z λZ1=>b Z1 Q)
  (Qd:∀Z,I n Z->k4 .nx Z):cu g b (zr 0 n) Z k4 :=
 Gx 0 n I Z h0 (λj Z hj hi Q h1 h2 h3 h4=>by rw[Int.zero_add];exact step j Z hj hi Q h1 h2 h3 h4) Qd
theorem bF{i:Int}(h:i.natAbs<2^200):dF i:=so h (UW xp xp)
theorem jF(x:Int){m:Int}(h:0<m):0<=x.fmod m/\x.fmod m<m:=by rw[Va _ xL];exact⟨Wz _ xL,Wu _ h⟩
theorem zL{i:Int}{n:Nat}(h0:0<=i)(h:i<2^n)(hn:n<=1000000):dF i:=by
 have:i.natAbs<2^n:=by
  have e:((2^n:Nat):Int)=(2:Int)^n:=by simp
  omega
 exact so this (UW xp hn)
theorem Oa:(10:Int)^60<2^200:=by decide
theorem xZ{i:Int}(h0:0<=i)(h:i<=10^60):i.natAbs<2^9000:=by
 have:i.natAbs<2^200:=by
  have:=Oa;have e:((2^200:Nat):Int)=(2:Int)^200:=by decide
  omega
 exact so this (UW xp xp)
theorem RB.sub{m n:Nat}{p q:Rat}(hp:RB m p)(hq:RB n q):RB (m+n+1) (p-q):=by rw[Vw];exact hp.add hq.neg
theorem Ik(p q:Rat):Rat.divInt (p.num*q.num) ((p.den:Int)*(q.den:Int))=p*q:=by rw[<- V8,Vm,Vm]
theorem RB.of_divInt{t b:Int}{n:Nat}(h:b≠0)(ht:t.natAbs<2^n)(hb:b.natAbs<2^n):RB n (Rat.divInt t b):=⟨U1 (HW h) ht,U1 (HV h) hb⟩
theorem p6(p q:Rat):((p.den:Int)*(q.den:Int))≠0:=by have dp:=den_pos p;have dq:=den_pos q;exact Int.mul_ne_zero xL xL
theorem mf(p q:Rat):((p.den:Int)*(q.den:Int)).natAbs=p.den*q.den:=by rw[V6,U5,U5]
theorem RB.mul{m n:Nat}{p q:Rat}(hp:RB m p)(hq:RB n q):RB (m+n) (p*q):=by rw[<- Ik];exact RB.of_divInt (p6 p q) (by rw[V6];exact bp hp.1 hq.1) (by rw[mf];exact bp hp.2 hq.2)
theorem zM(q:Rat):(q.den:Int)≠0:=by have:=den_pos q;omega
theorem RB.zero:RB 1 0:=⟨xp,xp⟩
theorem MJ(p q:Rat):decide (p.num*(q.den:Int)<q.num*(p.den:Int))=decide (p<q):=by rw[Wq,Rat.lt_iff]
structure RJ where
 nm:Str
 one:Nat
 other:Nat
 size:Rat
structure aQ where
 rooms:List Rat
 asks:List RJ
noncomputable def aQ.n(R:aQ):Nat:=R.rooms.length
noncomputable def kg(a:RJ):D:=.tup [.str a.nm,.int a.one,.int a.other,Rh a.size]
noncomputable def aJ(R:aQ):D:=.tup [.lst (R.rooms.map Rh),.lst (R.asks.map kg)]
theorem Il(q:Rat):(q.num:Rat)=q*(q.den:Rat):=by
 have h:=Vm q;have hd:(q.den:Rat)≠0:=λw=>by have:=Rat.natCast_pos.mpr q.den_pos;rw[w]at this;exact absurd this xp
 rw[Rat.divInt_eq_div]at h;have e:(((q.den:Nat):Int):Rat)=(q.den:Rat):=rfl;rw[e]at h;have e2:q*(q.den:Rat)=(q.num:Rat) / (q.den:Rat)*(q.den:Rat):=by rw[h]
 rw[e2,Rat.div_mul_cancel hd]
theorem DU{q:Rat}{V:Nat}(h0:0<=q)(hv:q<(V:Rat)):q.num.natAbs<V*q.den:=by
 have hd:(0:Rat)<(q.den:Rat):=Rat.natCast_pos.mpr q.den_pos;have h1:q*(q.den:Rat)<(V:Rat)*(q.den:Rat):=Rat.mul_lt_mul_of_pos_right hv hd;rw[<- Il]at h1
 have h2:((q.num:Int):Rat)<(((V*q.den:Nat):Int):Rat):=by
  have e:(((V*q.den:Nat):Int):Rat)=(V:Rat)*(q.den:Rat):=by push_cast;rfl
  rw[e];exact h1
 have h3:q.num<((V*q.den:Nat):Int):=Rat.intCast_lt_intCast.mp h2;have h4:0<=q.num:=Rat.num_nonneg.mpr h0;omega
theorem RB.of_val{q:Rat}{d v:Nat}(h0:0<=q)(hd:q.den<2^d)(hv:q<((2^v:Nat):Rat)):RB (v+d) q:=by refine⟨so (DU h0 hv) ?_,so hd (UW xp xL)⟩;rw[Nat.pow_add];exact Nat.mul_le_mul_left _ (WJ hd)
structure gC (n:Nat) (a:RJ):Prop where
 one:a.one<n
 other:a.other<n
 ne:a.one≠a.other
 size:0<=a.size
 lt:a.size<((2^300:Nat):Rat)
 nm:PyData.strOk a.nm=true
structure aQ.Ok (R:aQ):Prop where
 lo:2<=R.n
 hi:R.n<=12
 few:R.asks.length<=20
 room:∀q∈R.rooms,0<q/\RB 60 q
 ask:∀a∈R.asks,gC R.n a
 cd:∃D:Nat,0<D/\D<2^1240/\∀a∈R.asks,a.size.den∣D
theorem aQ.Ok.rb{R:aQ}(h:R.Ok){a:RJ}(ha:a∈R.asks):RB 1540 a.size:=by obtain⟨D,d0,d1,hd⟩:=h.cd;exact RB.of_val (v:=300) (d:=1240) (h.ask a ha).size (U1 (Wl d0 (hd a ha)) d1) (h.ask a ha).lt
theorem iw{α:Type}{n:Nat}{f:α->D}:∀xs:List α,(∀x∈xs,Ri n (f x)=true)->qN n (xs.map f)=true
 |[],_=>rfl
 |x::xs,h=>by simp[qN,h x p4,iw xs λy hy=>h y (gV _ hy)]
theorem ya(n:Nat)(q:Rat):Ri (n+1) (Rh q)=true:=by cases n<;>simp[Rh,Ri,qN]
theorem J2{n:Nat}{a:RJ}(h:gC n a):Ri 2 (kg a)=true:=by simp[kg,Ri,qN,h.nm,ya]
theorem Gy{R:aQ}(h:R.Ok):Ri 4 (aJ R)=true:=by simp only[aJ,Ri,qN,VF,UQ];exact⟨iw _ λq _=>ya 1 q,iw _ λa ha=>J2 (h.ask a ha)⟩
theorem vg(ns:List Int):fY (.lst (ns.map .int)):=jC (n:=1) (by simp only[Ri];exact iw _ λ_ _=>rfl) xp
theorem yb:∀(as bs:List Int),PyData.eqvAll (fX (as.map .int)) (fX (bs.map .int))=decide (as=bs)
 |[],[]=>by simp[rQ]
 |[],b::bs=>by simp[fX,PyData.eqvAll]
 |a::as,[]=>by simp[fX,PyData.eqvAll]
 | a::as,b::bs=>by rw[Ve,Ve,g7,yb as bs,kM];simp
theorem Gz(as bs:List Int):Q6 (.lst (as.map .int)) (.lst (bs.map .int))=decide (as=bs):=by rw[JA,yb]
theorem DV(qs:List Rat):fY (.lst (qs.map Rh)):=jC (n:=2) (by simp only[Ri];exact iw _ λq _=>ya 0 q) xp
def uy(xs:List D):Prop:=∃(c sd:Int)(t:Bool),xs=[.int c,.int sd,.bl t]/\0<=sd/\sd<2147483647
theorem Bi{t b g:Int}(h:b≠0)(e:g=dn t b):D.tup [.int (t.fdiv g),.int (b.fdiv g)]=Rh (Rat.divInt t b):=by subst e;rw[Dw h,Jy h];rfl
noncomputable def Pw(qs:List Rat):Nat:=(qs.map (·.den)).foldr (·*·) 1
noncomputable def J3(qs:List Rat):Rat:=qs.foldl (·+·) 0
theorem DW(qs:List Rat):∀acc:Rat,qs.foldl (·+·) acc=acc+J3 qs:=by
 unfold J3
 induction qs with
 |nil=>intro acc;simp[Rat.add_zero]
 |cons q qs ih=>intro acc;rw[List.foldl_cons,List.foldl_cons,ih,ih (0+q),Rat.zero_add,Rat.add_assoc]
theorem DX(q:Rat)(qs:List Rat):J3 (q::qs)=q+J3 qs:=by show(q::qs).foldl (·+·) 0=_;rw[List.foldl_cons,DW,Rat.zero_add]
theorem GA{α β:Type}(f:α->β)(xs:List α)(l u:Option Int):CK (xs.map f) l u=(CK xs l u).map f:=by unfold CK;rw[UN,<- List.map_drop,<- List.map_take]
theorem GB{xs:List D}{i:Int}{k:L->Prop}:aM (.lst xs) (.int i) k=∃v,Qz xs i=some v/\k (.d v):=rfl
theorem GC{xs:List D}{i:Int}{k:L->Prop}:aM (.tup xs) (.int i) k=∃v,Qz xs i=some v/\k (.d v):=rfl
theorem GD{z:Str}{i:Int}{k:L->Prop}:aM (.str z) (.int i) k=(z.length<=sizeLine/\∃c,Qz z.cps.toList i=some c/\k (.d (.str ⟨#[c]⟩))):=rfl
theorem GE{R:aQ}{k:L->Prop}:aM (aJ R) (.int 0) k=k (.d (.lst (R.rooms.map Rh))):=by show(∃v,Qz _ _=some v/\_)=_;simp only[xX,Vl,VH]
theorem GF{R:aQ}{k:L->Prop}:aM (aJ R) (.int 1) k=k (.d (.lst (R.asks.map kg))):=by show(∃v,Qz _ _=some v/\_)=_;simp only[xY,Vl,VH]
theorem J4{a:RJ}{k:L->Prop}:aM (kg a) (.int 0) k=k (.d (.str a.nm)):=by show(∃v,Qz _ _=some v/\_)=_;simp only[xX,Vl,VH]
theorem J5{a:RJ}{k:L->Prop}:aM (kg a) (.int 1) k=k (.d (.int a.one)):=by show(∃v,Qz _ _=some v/\_)=_;simp only[xY,Vl,VH]
theorem J6{a:RJ}{k:L->Prop}:aM (kg a) (.int 2) k=k (.d (.int a.other)):=by show(∃v,Qz _ _=some v/\_)=_;simp only[Gw,Vl,VH]
theorem J7{a:RJ}{k:L->Prop}:aM (kg a) (.int 3) k=k (.d (Rh a.size)):=by show(∃v,Qz _ _=some v/\_)=_;simp only[MI,Vl,VH]
theorem MK{q:Rat}{k:L->Prop}:aM (Rh q) (.int 0) k=k (.d (.int q.num)):=by show(∃v,Qz _ _=some v/\_)=_;simp only[xX,Vl,VH]
theorem ML{q:Rat}{k:L->Prop}:aM (Rh q) (.int 1) k=k (.d (.int (q.den:Int))):=by show(∃v,Qz _ _=some v/\_)=_;simp only[xY,Vl,VH]
theorem Im(q:Rat):Rl (Rh q)=true:=by simp[Rh,Rl,uF]
theorem rT{α:Type}{f:α->D}:∀(xs:List α),(∀x∈xs,Rl (f x)=true)->uF (xs.map f)=true
 |[],_=>rfl
 |x::xs,h=>by simp[uF,h x p4,rT xs λy hy=>h y (gV _ hy)]
theorem Bj(qs:List Rat):uF (qs.map Rh)=true:=rT _ λq _=>Im q
theorem DY{α:Type}(f:α->Int)(xs:List α):uF (xs.map λx=>D.int (f x))=true:=rT _ λ_ _=>rfl
theorem DZ(R:aQ):R.rooms.length=R.n:=rfl
noncomputable def dD(w:Bool):Str:=if w then "on" else "back"
theorem Bk:fY (.str "on"):=jC (n:=0) y_ xp
theorem vh:fY (.str "back"):=jC (n:=0) y_ xp
theorem cx(w:Bool):fY (.str (dD w)):=by
 cases w
 . exact vh
 . exact Bk
theorem MM(w:Bool):(dD w="on")=(w=true):=by cases w <;> simp[dD] <;> decide
theorem GG(w:Bool):(dD w="back")=(w=false):=by cases w <;> simp[dD] <;> decide
theorem yc{is:List Nat}{xs:List D}{Z:Ev}{k:Ev->Prop}:eY is (.tup xs) Z k=jw is xs Z k:=rfl
theorem D0{is:List Nat}{a:RJ}{Z:Ev}{k:Ev->Prop}:eY is (kg a) Z k=jw is [.str a.nm,.int a.one,.int a.other,Rh a.size] Z k:=rfl
theorem GH{is:List Nat}{q:Rat}{Z:Ev}{k:Ev->Prop}:eY is (Rh q) Z k=jw is [.int q.num,.int (q.den:Int)] Z k:=rfl
theorem GI{α:Type}{xs:List α}{k:Nat}(h:k<=xs.length):CK xs (some (k:Int)) none=xs.drop k:=by unfold CK HT.sIx;simp only[if_neg (show ¬((k:Int)<0) by omega),VL,Nat.min_eq_left h];rw[VU];rw[VV];exact US _
theorem zN{xs:List D}{k:List D->Prop}:kI (.lst xs) k=k xs:=rfl
theorem zO{xs:List D}{k:List D->Prop}:kI (.tup xs) k=k xs:=rfl
theorem Ci{q:Rat}{k:List D->Prop}:kI (Rh q) k=k [.int q.num,.int (q.den:Int)]:=rfl
theorem D1{xs:List D}{k:L->Prop}:cZ [.lst xs] k=k (.d (.int xs.length)):=rfl
theorem D2{xs:List D}{k:L->Prop}:cZ [.tup xs] k=k (.d (.int xs.length)):=rfl
theorem D3{x:Str}{k:L->Prop}:cZ [.str x] k=(x.length<=sizeLine/\k (.d (.int x.length))):=rfl
theorem GJ{q:Rat}{k:L->Prop}:cZ [Rh q] k=k (.d (.int 2)):=rfl
theorem Cj{R:aQ}{k:L->Prop}:cZ [aJ R] k=k (.d (.int 2)):=rfl
theorem D4{a:RJ}{k:L->Prop}:cZ [kg a] k=k (.d (.int 4)):=rfl
theorem zQ(q:Rat):oG "tuple" (Rh q)=true:=rfl
theorem zR(q:Rat):oG "list" (Rh q)=false:=rfl
theorem zS(q:Rat):oG "int" (Rh q)=false:=rfl
theorem yd(q:Rat):oG "bool" (Rh q)=false:=rfl
theorem zT(q:Rat):oG "str" (Rh q)=false:=rfl
theorem vZ(R:aQ):oG "tuple" (aJ R)=true:=rfl
noncomputable def RK(n:Nat)(f:Nat->Rat):List D:=(List.range n).map λ(t:Nat)=>Rh (f t)
theorem J8(n:Nat)(f:Nat->Rat):(RK n f).length=n:=by simp[RK]
theorem J9(n:Nat)(f:Nat->Rat):RK n f=((List.range n).map f).map Rh:=by unfold RK;rw[Vn];rfl
theorem GK(n:Nat)(f:Nat->Rat):uF (RK n f)=true:=by rw[J9];exact Bj _
noncomputable def zU(c:Nat×Nat):D:=.tup [.int (c.1:Int),.int (c.2:Int)]
theorem Ka{c:Nat×Nat}{k:L->Prop}:aM (zU c) (.int 0) k=k (.d (.int c.1)):=by show(∃v,Qz _ _=some v/\_)=_;simp only[xX,Vl,VH]
theorem Kb{c:Nat×Nat}{k:L->Prop}:aM (zU c) (.int 1) k=k (.d (.int c.2)):=by show(∃v,Qz _ _=some v/\_)=_;simp only[xY,Vl,VH]
theorem Kc(n:Nat)(c:Nat×Nat):Ri (n+1) (zU c)=true:=by cases n<;>simp[zU,Ri,qN]
theorem D5(c:Nat×Nat):Rl (zU c)=true:=by simp[zU,Rl,uF]
theorem D6(c:Nat×Nat):fY (zU c):=jC (Kc 0 c) xp
theorem Kd(c d:Nat×Nat):Q6 (zU c) (zU d)=decide (c=d):=by
 unfold zU;rw[zA,g7,g7,rQ,kM,kM,VF,<- Bool.decide_and,Wq];constructor
 . rintro⟨h1,h2⟩;exact Prod.ext xL xL
 . rintro rfl;exact⟨rfl,rfl⟩
noncomputable def gP(g:Rat×(Nat×Nat)):D:=.tup [Rh g.1,zU g.2]
theorem Ob{g:Rat×(Nat×Nat)}{k:L->Prop}:aM (gP g) (.int 0) k=k (.d (Rh g.1)):=by show(∃v,Qz _ _=some v/\_)=_;simp only[xX,Vl,VH]
theorem Oc{g:Rat×(Nat×Nat)}{k:L->Prop}:aM (gP g) (.int 1) k=k (.d (zU g.2)):=by show(∃v,Qz _ _=some v/\_)=_;simp only[xY,Vl,VH]
theorem GL(T:String):oG T .non=(T == "NoneType"):=rfl
theorem Ke(T:String)(b:Bool):oG T (.bl b)=(T == "bool" ||T == "int"):=rfl
theorem GM(T:String)(i:Int):oG T (.int i)=(T == "int"):=rfl
theorem GN(T:String)(x:Str):oG T (.str x)=(T == "str"):=rfl
theorem GO(T:String)(xs:List D):oG T (.tup xs)=(T == "tuple"):=rfl
theorem GP(T:String)(xs:List D):oG T (.lst xs)=(T == "list"):=rfl
theorem Ck(g:Rat×(Nat×Nat)):oG "tuple" (gP g)=true:=rfl
theorem ye(c:Nat×Nat):oG "tuple" (zU c)=true:=rfl
theorem yf(a:RJ):oG "tuple" (kg a)=true:=rfl
theorem D7{c:Nat×Nat}{k:L->Prop}:cZ [zU c] k=k (.d (.int 2)):=rfl
theorem Kg{c:Rat×(Nat×Nat)}{k:L->Prop}:cZ [gP c] k=k (.d (.int 2)):=rfl
theorem D8(cs:List (Nat×Nat)):uF (cs.map zU)=true:=rT _ λc _=>D5 c
end L2
namespace L2
open PySem PySem.Builtin.Str
theorem Kh{x y:Str}(h:x.cps.toList=y.cps.toList):x=y:=by cases x;cases y;exact WG Str.mk (Array.toList_inj.mp h)
theorem GQ{x:Str}{j:Int}(h0:0<=j)(h2:j<=x.length):(Txt.slice x none (some j)).cps.toList=x.cps.toList.take j.toNat:=by have:=eq_of_beq (PyProof.Rows.slice_closes_toL h0 h2);rw[this];simp
theorem Cm{x:Str}{i:Int}(h0:0<=i)(h2:i<=x.length):(Txt.slice x (some i) none).cps.toList=x.cps.toList.drop i.toNat:=by
 rw[PyProof.Rows.slice_from_eq h0 h2 rfl];have e:x.cps.toList.length=x.length:=by simp[Str.length]
 rw[VU];rw[VV,e];omega
theorem oV(x y:Str):(x++y).cps.toList=x.cps.toList++y.cps.toList:=by show(x.cps++y.cps).toList=_;simp
theorem mh(x:Str):x.length=x.cps.toList.length:=by simp[Str.length]
def tD(c:Nat):Prop:=97<=c/\c<=122
structure Cn (z:Str):Prop where
 lo:1<=z.cps.toList.length
 hi:z.cps.toList.length<=8
 let_:∀c∈z.cps.toList,tD c
theorem Cn.ok{z:Str}(h:Cn z):PyData.strOk z=true:=by unfold PyData.strOk;rw[<- Array.all_toList,VE];intro c hc;have:=h.let_ c hc;unfold tD at this;simp;omega
noncomputable def v5:Str:="abcdefghijklmnopqrstuvwxyz"
theorem yg:v5.cps.toList=(List.range 26).map (·+97):=by decide
theorem vi{i:Int}(h0:0<=i)(h1:i<26):Qz v5.cps.toList i=some (i.toNat+97):=by refine Ij h0 ?_;rw[yg,UU,VI xL];rfl
theorem vj:∀(zs:List Str),(Str.join "" zs).cps.toList=(zs.map λz=>z.cps.toList).flatten
 |[]=>rfl
 |[x]=>by simp[Str.join]
 | x::y::r=>by have ih:=vj (y::r);show(x++("" : Str)++Str.join "" (y::r)).cps.toList=_;rw[oV,oV,ih];show x.cps.toList++[]++_=_;simp
theorem GR(zs:List Str):(Txt.join "" zs).cps.toList=(zs.map λz=>z.cps.toList).flatten:=by rw[eq_of_beq (PyProof.Rows.join_closes (sep:="") (sep':="") (ys:=zs) rfl),vj]
theorem yh:∀cs:List Nat,(cs.map λc=>[c]).flatten=cs
 |[]=>rfl
 |c::cs=>by rw[Ve,List.flatten_cons,yh cs];rfl
theorem p7(cs:List Nat):(Txt.join "" (cs.map λc=>(⟨#[c]⟩:Str))).cps.toList=cs:=by rw[GR,Vn];exact yh cs
theorem Bl:∀cs:List Nat,((cs.map λc=>(⟨#[c]⟩:Str)).map (·.length)).sum=cs.length
 |[]=>rfl
 | c::cs=>by rw[Ve,Ve,List.sum_cons,Bl cs,V9];show 1+_=_;omega
noncomputable def nameAt(b:Str)(p t k:Nat):Str:=⟨(b.cps.toList.take p++[(t+k) % 26+97]++b.cps.toList.drop (p+1)).toArray⟩
theorem D9{b:Str}{p t k:Nat}(h:Cn b)(hp:p<b.cps.toList.length):Cn (nameAt b p t k):=by
 have e:(nameAt b p t k).cps.toList=b.cps.toList.take p++[(t+k) % 26+97]++b.cps.toList.drop (p+1):=by simp[nameAt]
 have l:(b.cps.toList.take p++[(t+k) % 26+97]++b.cps.toList.drop (p+1)).length=b.cps.toList.length:=by rw[Vk,Vk,Wa,VV,List.length_singleton];omega
 refine⟨by rw[e,l];exact h.lo,by rw[e,l];exact h.hi,λc hc=>?_⟩;rw[e]at hc;rcases Vg.mp hc with hc|hc
 .
  rcases Vg.mp hc with hc|hc
  . exact h.let_ c (List.mem_of_mem_take hc)
  . rw[Vx.mp hc];unfold tD;have:=WH (t+k) (y:=26) xp;omega
 . exact h.let_ c (List.mem_of_mem_drop hc)
theorem Co{b:Str}{p t j k:Nat}(hp:p<b.cps.toList.length)(hj:j<26)(hk:k<26)(h:nameAt b p t j=nameAt b p t k):j=k:=by
 have e:b.cps.toList.take p++[(t+j) % 26+97]++b.cps.toList.drop (p+1)=b.cps.toList.take p++[(t+k) % 26+97]++b.cps.toList.drop (p+1):=by have:=WG (λz:Str=>z.cps.toList) h;simpa[nameAt]using this
 rw[Vs,Vs]at e;have e2:=List.append_cancel_left e;have e3:=(List.cons.inj e2).1;omega
theorem yi{α β:Type}{f:α->β}:∀{xs:List α},xs.Nodup->(∀x∈xs,∀y∈xs,f x=f y->x=y)->(xs.map f).Nodup
 |[],_,_=>List.nodup_nil
 | x::xs,hn,h=>by rw[Ve,Vf];obtain⟨h1,h2⟩:=Vf.mp hn;refine⟨λhm=>?_,yi h2 λa ha b hb=>h a (gV _ ha) b (gV _ hb)⟩;obtain⟨y,hy,e⟩:=VA.mp hm;have:=h y (gV _ hy) x p4 e;rw[this]at hy;exact h1 hy
theorem GS{q:Rat}(h:RB 60 q):q<((2^300:Nat):Rat):=by
 have h1:=Il q;have hd:(1:Rat)<=(q.den:Rat):=by have:=q.den_pos;exact_mod_cast this
 have h2:(q.num:Rat)<((2^300:Nat):Rat):=by
  have h3:q.num<((2^300:Nat):Int):=by have:=so h.1 (UW (show 0<2 by decide) (show 60<=300 by decide));omega
  exact Rat.intCast_lt_intCast.mpr h3
 have hV:(0:Rat)<((2^300:Nat):Rat):=Rat.natCast_pos.mpr (Nat.pow_pos xp);generalize ((2^300:Nat):Rat)=V at *;refine Rat.not_le.mp λhq=>?_;have h4:V*1<=q*(q.den:Rat):=WI (Rat.mul_le_mul_of_nonneg_left hd (Rat.le_of_lt hV)) (Rat.mul_le_mul_of_nonneg_right hq (by grind));rw[<- h1]at h4;grind
noncomputable def Cp:List RJ->Nat
 |[]=>1
 |a::as=>a.size.den*Cp as
theorem v7:∀as,0<Cp as
 |[]=>Nat.one_pos
 |a::as=>Nat.mul_pos a.size.den_pos (v7 as)
theorem zV:∀{as:List RJ},(∀a∈as,RB 60 a.size)->Cp as<=2^(60*as.length)
 |[],_=>US 1
 | a::as,h=>by have h1:=(h a p4).2;have h2:=zV (as:=as) λp hp=>h p (gV _ hp);show a.size.den*Cp as<=2^(60*(as.length+1));rw[Nat.mul_add,Nat.mul_one,Nat.pow_add,Nat.mul_comm (2^_)];exact Nat.mul_le_mul (WJ h1) h2
theorem rV:∀{as:List RJ}{a:RJ},a∈as->a.size.den∣Cp as
 | b::as,a,h=>by
  rcases UV.mp h with rfl|h
  . exact Nat.dvd_mul_right _ _
  . exact Nat.dvd_trans (rV h) (Nat.dvd_mul_left _ _)
theorem Od{as:List RJ}(h:∀a∈as,RB 60 a.size)(hl:as.length<=20):∃D:Nat,0<D/\D<2^1240/\∀a∈as,a.size.den∣D:=by refine⟨Cp as,v7 as,U1 (zV h) (Nat.pow_lt_pow_right xp xL),λa ha=>rV ha⟩
end L2
namespace L2
open PySem
noncomputable def RL(n i j:Nat):List Nat:=(List.range ((j+n-i) % n)).map λs=>(i+s) % n
noncomputable def tE(n i j:Nat):List Nat:=(List.range ((i+n-j) % n)).map λs=>(i+n-1-s) % n
noncomputable def zW(n:Nat)(a:RJ)(w:Bool):List Nat:=if w then RL n a.one a.other else tE n a.one a.other
theorem Ea{n i j:Nat}(hi:i<n)(hj:j<n):(((j:Int)-i).fmod n)=(((j+n-i) % n:Nat):Int):=by
 rw[Va _ xL];have e:((j:Int)-i) % n=((j:Int)-i+n) % n:=(Int.add_emod_right _ _).symm;rw[e];have:(j:Int)-i+n=((j+n-i:Nat):Int):=by omega
 rw[this];exact(Int.natCast_emod _ _).symm
theorem Bm{n i s:Nat}:(((i:Int)+s).fmod n)=(((i+s) % n:Nat):Int):=by rw[Va _ xL,Int.natCast_emod,Int.natCast_add]
theorem GT{n i s:Nat}(hn:0<n)(hs:s<n):(((i:Int)-1-s).fmod n)=(((i+n-1-s) % n:Nat):Int):=by
 rw[Va _ xL];have e:((i:Int)-1-s) % n=((i:Int)-1-s+n) % n:=(Int.add_emod_right _ _).symm;rw[e];have:(i:Int)-1-s+n=((i+n-1-s:Nat):Int):=by omega
 rw[this];exact(Int.natCast_emod _ _).symm
noncomputable def RM(n i j:Nat):Nat:=(j+n-i) % n
theorem oW{x n:Nat}(h:x<2*n):x % n=if x<n then x else x-n:=by
 by_cases hx:x<n
 . rw[if_pos hx,Nat.mod_eq_of_lt hx]
 . rw[if_neg hx,Nat.mod_eq_sub_mod xL,Nat.mod_eq_of_lt xL]
theorem qR{n i j:Nat}(hi:i<n)(hj:j<n):RM n i j=if i<=j then j-i else j+n-i:=by unfold RM;rw[oW xL];split<;>split<;>omega
theorem vk(n i j:Nat):(RL n i j).length=RM n i j:=by simp[RL,RM]
theorem Bn(n i j:Nat):(tE n i j).length=RM n j i:=by simp[tE,RM]
theorem Ki{n:Nat}{a:RJ}(h:gC n a)(w:Bool):(zW n a w).length<n:=by
 have h1:=h.one;have h2:=h.other;cases w
 . show(tE n a.one a.other).length<n;rw[Bn];exact WH _ xL
 . show(RL n a.one a.other).length<n;rw[vk];exact WH _ xL
theorem yj{n i j:Nat}(hn:0<n):RM n i j<n:=WH _ hn
theorem Bo{n i s:Nat}(hi:i<n)(hs:s<n):RM n i ((i+s) % n)=s:=by have h1:=WH (i+s) (y:=n) xL;rw[qR hi h1,oW xL];split<;>split<;>omega
theorem v8{n i t:Nat}(hi:i<n)(ht:t<n):(i+RM n i t) % n=t:=by have h1:=yj (n:=n) (i:=i) (j:=t) xL;rw[oW xL,qR hi ht];split<;>split<;>omega
theorem Eb{n i j:Nat}(hi:i<n)(hj:j<n)(h:i≠j):RM n i j+RM n j i=n:=by rw[qR hi hj,qR hj hi];split<;>split<;>omega
theorem Kj{n i j:Nat}(hi:i<n)(hj:j<n)(h:i≠j):0<RM n i j:=by rw[qR hi hj];split<;>omega
theorem Ec{n i j t:Nat}(hi:i<n):t∈RL n i j↔t<n/\RM n i t<RM n i j:=by
 constructor
 . intro h;obtain⟨s,hs,rfl⟩:=VA.mp h;have hs:s<RM n i j:=Vd.mp hs;have:=yj (n:=n) (i:=i) (j:=j) xL;exact⟨WH _ xL,by rw[Bo hi xL];exact hs⟩
 . rintro⟨ht,h⟩;exact VA.mpr ⟨RM n i t,Vd.mpr h,v8 hi ht⟩
theorem Ed{n i s:Nat}(hi:i<n)(hs:s<n):(i+n-1-s) % n=(i+(n-1-s)) % n:=by
 congr 1
 omega
theorem v9{n i j t:Nat}(hi:i<n)(hj:j<n)(hij:i≠j):t∈tE n i j↔t<n/\¬RM n i t<RM n i j:=by
 have hsum:=Eb hi hj hij;constructor
 . intro h;obtain⟨s,hs,rfl⟩:=VA.mp h;have hs:s<RM n j i:=Vd.mp hs;refine⟨WH _ xL,?_⟩;rw[Ed hi xL,Bo hi xL];omega
 .
  rintro⟨ht,h⟩;have:=yj (n:=n) (i:=i) (j:=t) xL;refine VA.mpr ⟨n-1-RM n i t,Vd.mpr (show _<RM n j i by omega),?_⟩;rw[Ed hi xL];have e:n-1-(n-1-RM n i t)=RM n i t:=by omega
  rw[e,v8 hi ht]
noncomputable def yk(n:Nat)(a:RJ)(t:Nat):Bool:=decide (RM n a.one t<RM n a.one a.other)
theorem wa{n:Nat}{a:RJ}(h:gC n a)(w:Bool){t:Nat}(ht:t<n):t∈zW n a w↔(yk n a t == w)=true:=by
 have h1:=h.one;have h2:=h.other;cases w
 . show t∈tE n a.one a.other↔_;rw[v9 h1 h2 h.ne];simp[yk,ht]
 . show t∈RL n a.one a.other↔_;rw[Ec h1];simp[yk,ht]
theorem Io{n i j:Nat}(hi:i<n)(hj:j<n)(hij:i≠j):RL n j i=(tE n i j).reverse:=by
 have hsum:=Eb hi hj hij;refine List.ext_getElem (by rw[List.length_reverse,vk,Bn]) λs h1 h2=>?_;rw[vk]at h1;have hp:=Kj hi hj hij;rw[List.getElem_reverse];simp only[RL,tE,List.getElem_map,List.getElem_range,UN,Vc];have e:(i+n-j) % n=RM n j i:=rfl;rw[e];have e2:j=(i+RM n i j) % n:=(v8 hi hj).symm;have e3:i+n-1-(RM n j i-1-s)=i+RM n i j+s:=by omega
 rw[e3]
 conv=>lhs;rw[e2]
 rw[Nat.mod_add_mod]
theorem GU{n i j:Nat}(hi:i<n)(hj:j<n)(hij:i≠j):tE n j i=(RL n i j).reverse:=by rw[Io hj hi (VB hij),List.reverse_reverse]
noncomputable def Ee(a:RJ):RJ:=⟨a.nm,a.other,a.one,a.size⟩
theorem GV{n:Nat}{a:RJ}(h:gC n a):gC n (Ee a):=⟨h.other,h.one,VB h.ne,h.size,h.lt,h.nm⟩
theorem GW{n:Nat}{a:RJ}(h:gC n a)(w:Bool):zW n (Ee a) w=(zW n a !w).reverse:=by
 cases w
 . exact GU h.one h.other h.ne
 . exact Io h.one h.other h.ne
theorem Ef{n:Nat}{a:RJ}(h:gC n a){t:Nat}(ht:t<n):yk n (Ee a) t=!yk n a t:=by
 have e1:=wa (GV h) true ht;have e2:=wa h false ht;rw[GW h true,List.mem_reverse]at e1;have e3:=e1.symm.trans e2
 revert e3
 cases yk n (Ee a) t<;>cases yk n a t<;>simp
theorem oX(t:Nat):∀(T:List Nat),QJ (.int (t:Int)) (T.map λ(s:Nat)=>D.int (s:Int))=decide (t∈T)
 |[]=>rfl
 | s::T=>by
  have ih:=oX t T;unfold QJ at ih ⊢;rw[Ve,Wc,ih];show(Re (.int (s:Int)) (.int (t:Int)) ||_)=_;have e:Re (.int (s:Int)) (.int (t:Int))=decide (t=s):=by show decide ((s:Int)=(t:Int))=_;rw[Wq];omega
  rw[e];simp[Bool.decide_or]
theorem yl(T:List Nat):(T.map λ(s:Nat)=>D.int (s:Int)).all pW=true:=by rw[VE];intro x hx;obtain⟨s,_,rfl⟩:=VA.mp hx;rfl
theorem RB.sum{b:Nat}:∀(qs:List Rat),(∀q∈qs,RB b q)->RB (1+(b+1)*qs.length) (J3 qs)
 |[],_=>RB.mono (m:=1) ⟨xp,xp⟩ xL
 | q::qs,h=>by have ih:=RB.sum qs λz hz=>h z (gV _ hz);rw[DX];refine((h q p4).add ih).mono ?_;rw[V9,Nat.mul_succ];omega
noncomputable def Oe(n:Nat)(a:RJ)(p:Rat)(t:Nat):Rat:=if yk n a t then p else a.size-p
noncomputable def MN(n:Nat)(as:List RJ)(ps:List Rat)(t:Nat):Rat:=J3 ((as.zip ps).map λx=>Oe n x.1 x.2 t)
structure Kk (R:aQ) (ps:List Rat) (c:Nat):Prop where
 len:ps.length=R.asks.length
 lo:∀x∈R.asks.zip ps,0<=x.2/\x.2<=x.1.size
 rb:∀p∈ps,RB c p
noncomputable def CS(c:Nat×Nat)(p:Nat):Bool:=decide (c.1<p/\p<=c.2)
noncomputable def apart(c:Nat×Nat)(i j:Nat):Bool:=CS c i != CS c j
noncomputable def Kl(as:List RJ)(c:Nat×Nat):Rat:=J3 ((as.filter λa=>apart c a.one a.other).map (·.size))
noncomputable def aQ.room(R:aQ)(t:Nat):Rat:=R.rooms.getD t 0
noncomputable def MO(R:aQ)(c:Nat×Nat):Rat:=R.room c.1+R.room c.2
noncomputable def OW(R:aQ)(c:Nat×Nat):Rat:=Kl R.asks c / MO R c
def Px(n:Nat)(c:Nat×Nat):Prop:=c.1<=c.2/\c.2<n
def Of(qs:List Rat):Prop:=Pw qs<2^9000∨∃D:Nat,0<D/\D<2^4400/\∀q∈qs,q.den∣D
theorem Bp(qs:List Rat):fh (qs.map Rh)=(List.range qs.length).map λ(t:Nat)=>D.tup [.int (t:Int),Rh (qs.getD t 0)]:=by
 unfold fh;refine List.ext_getElem x_ λj h1 h2=>?_;have hj:j<qs.length:=by simpa using h1
 simp[hj]
noncomputable def aQ.sz(R:aQ)(k:Nat):Rat:=(R.asks.map (·.size)).getD k 0
theorem Cq{R:aQ}{k:Nat}(h:k<R.asks.length):R.sz k=R.asks[k].size:=by unfold aQ.sz;rw[UK,UU,fI h];rfl
theorem p8{qs:List Rat}{k:Nat}(h:k<qs.length):qs.getD k 0=qs[k]:=by rw[UK,fI h];rfl
end L2
namespace My
open PySem L2
noncomputable def ba(R:aQ)(j:Nat):RJ:=(R.asks[j]?).getD ⟨"",0,0,0⟩
noncomputable def RN(R:aQ)(j t:Nat):Bool:=yk R.n (ba R j) t
noncomputable def dI(R:aQ)(w:Nat->Int)(k g h:Nat):Int:=((List.range (R.asks.length-k)).map λi=>if RN R (k+i) g != RN R (k+i) h then w (k+i)else 0).sum
theorem GX{R:aQ}{j:Nat}(h:j<R.asks.length):ba R j=R.asks[j]:=by unfold ba;rw[fI h];rfl
def Py(R:aQ)(w f:Nat->Int)(k:Nat):Prop:=∀g h,g<R.n->h<R.n->dI R w k g h<=f g+f h/\(f g+f h-dI R w k g h) % 2=0
noncomputable def Og(R:aQ)(w f:Nat->Int)(k:Nat)(p:Int)(t:Nat):Int:=f t-if RN R k t then p else w k-p
noncomputable def RO(i j:Int):Int:=if j<i then j else i
noncomputable def RP(R:aQ)(k:Nat):List Nat:=(PySem.W.sortI ((zW R.n (ba R k) true).map λ(t:Nat)=>(t:Int))).map Int.toNat
noncomputable def Pz(R:aQ)(w f:Nat->Int)(k g h:Nat):Int:=f g+f h-dI R w (k+1) g h
noncomputable def MP(R:aQ)(w f:Nat->Int)(k:Nat)(acc:Int)(g:Nat)(hs:List Nat):Int:=hs.foldl (λt h=>if decide (g<=h)then RO t (Pz R w f k g h)else t) acc
noncomputable def MQ(R:aQ)(w f:Nat->Int)(k:Nat)(gs:List Nat):Int:=gs.foldl (λt g=>MP R w f k t g (RP R k)) (2*w k)
noncomputable def MR(R:aQ)(w f:Nat->Int)(k:Nat):Int:=(MQ R w f k (RP R k)).fdiv 2
noncomputable def RQ(R:aQ)(w f:Nat->Int):Nat->Nat->Int
 |0=>f
 |k+1=>Og R w (RQ R w f k) k (MR R w (RQ R w f k) k)
noncomputable def RR(R:aQ)(w f:Nat->Int)(k:Nat):Int:=MR R w (RQ R w f k) k
theorem zX{t b:Int}(h:b≠0):(Rat.divInt t b).den∣b.natAbs:=by rw[Rat.den_divInt,if_neg h];exact Nat.div_dvd_of_dvd (by rw[Int.gcd];exact Nat.gcd_dvd_left _ _)
theorem zY(p q:Rat):(p*q).den∣p.den*q.den:=by
 have e:p*q=Rat.divInt (p.num*q.num) ((p.den:Int)*q.den):=by rw[<- V8,Vm,Vm]
 rw[e];have:=zX (t:=p.num*q.num) (b:=(p.den:Int)*q.den) (Int.mul_ne_zero (zM _) (zM _));rwa [V6,U5,U5]at this
theorem GY(q:Rat):(q.num:Rat)=q*(q.den:Rat):=by
 have h:((q.den:Int):Rat)≠0:=λe=>zM q (by
  have:((q.den:Int):Rat)=((0:Int):Rat):=e
  exact Rat.intCast_inj.mp this)
 have e:q=(q.num:Rat) / ((q.den:Int):Rat):=by
  conv=>lhs;rw[<- Vm q,Rat.divInt_eq_div]
 have:=Rat.div_mul_cancel (a:=(q.num:Rat)) h;rw[<- e]at this;exact this.symm
noncomputable def RS(qs:List Rat):Nat:=qs.foldl (λb q=>Nat.lcm b q.den) 1
noncomputable def ym(u:Nat)(q:Rat):Int:=q.num*((u / q.den:Nat):Int)
theorem yn{u:Nat}{q:Rat}(h:q.den∣u):((ym u q:Int):Rat)=q*(u:Rat):=by obtain⟨c,rfl⟩:=h;unfold ym;rw[Nat.mul_div_cancel_left _ (den_pos q),Rat.intCast_mul,GY,Rat.intCast_natCast,Rat.natCast_mul,Rat.mul_assoc]
noncomputable def MS(R:aQ):List Rat:=R.asks.map (·.size)
noncomputable def Oh(R:aQ)(q:Rat):List Rat:=R.rooms.map λr=>q*r
noncomputable def RT(R:aQ)(q:Rat):Nat:=RS (MS R++Oh R q)
noncomputable def Ip(R:aQ)(q:Rat):Nat:=2*RT R q
noncomputable def wI(R:aQ)(q:Rat)(j:Nat):Int:=ym (Ip R q) (ba R j).size
noncomputable def RU(R:aQ)(q:Rat)(t:Nat):Int:=ym (Ip R q) (q*R.room t)
noncomputable def pI(R:aQ)(q:Rat)(k:Nat):Int:=RR R (wI R q) (RU R q) k
end My
set_option exponentiation.threshold 2000
namespace L2
open PySem
theorem Bq{a n:Nat}(h:a<2^n)(hn:n<=1900):a<2^1900:=so h (UW xp hn)
theorem rW{q:Rat}{n:Nat}(h:RB n q)(hn:n<=1900):b9 (Rh q)=true:=by have h1:=Bq h.1 hn;have h2:=Bq h.2 hn;simp only[Rh,b9,cO,VF,UQ,UP];exact⟨h1,by simpa using h2⟩
theorem fk{α:Type}{f:α->D}:∀xs:List α,(∀x∈xs,b9 (f x)=true)->cO (xs.map f)=true
 |[],_=>rfl
 |x::xs,h=>by simp only[Ve,cO,h x p4,fk xs λy hy=>h y (gV _ hy),Bool.and_self]
theorem Br{α:Type}{f:α->D}{c:Nat}:∀xs:List α,(∀x∈xs,(Q5 (f x)).weight<=c)->PyData.weightAll (fX (xs.map f))<=(c+1)*xs.length
 |[],_=>by simp[fX,PyData.weightAll]
 | x::xs,h=>by have h1:=Br xs λy hy=>h y (gV _ hy);have h2:=h x p4;simp only[Ve,fX,PyData.weightAll,V9];rw[Nat.mul_add];omega
theorem Bs{i:Int}{n:Nat}(h:i.natAbs<2^n):(Q5 (.int i)).weight<=n:=by
 simp only[Q5,PyData.weight];split
 . omega
 .
  rename_i h0;have h0':i.natAbs≠0:=by simpa using h0
  have:=(Nat.log2_lt h0').mpr h;omega
theorem Km{q:Rat}{n:Nat}(h:RB n q):(Q5 (Rh q)).weight<=2*n+2:=by have h1:=Bs h.1;have h2:=Bs (i:=(q.den:Int)) (n:=n) (by rw[U5];exact h.2);simp only[Rh,Q5,fX,PyData.weight,PyData.weightAll]at h1 h2 ⊢;omega
theorem MT{n:Nat}{a:RJ}(h:Cn a.nm/\RB 60 a.size)(ho:gC n a)(hn:n<=12):(Q5 (kg a)).weight<=150:=by
 have h1:=h.1.hi;have h2:=Km h.2;have h3:=ho.one;have h4:=ho.other;have h5:=Bs (i:=(a.one:Int)) (n:=4) (by rw[U5];omega);have h6:=Bs (i:=(a.other:Int)) (n:=4) (by rw[U5];omega);have e:a.nm.cps.size=a.nm.cps.toList.length:=by simp
 simp only[kg,Q5,fX,PyData.weight,PyData.weightAll]at h5 h6 ⊢;omega
theorem Eg{n:Nat}{a:RJ}(ht:RB 60 a.size)(h:gC n a)(hn:n<=12):b9 (kg a)=true:=by
 have h1:=h.one;have h2:=h.other;have p:12<2^1900:=Bq (n:=4) xp xp;simp only[kg,b9,cO,VF,VR,UQ,UP];refine⟨?_,?_,rW ht xp⟩
 . rw[U5];omega
 . rw[U5];omega
theorem Cr{R:aQ}(h:R.Ok)(hn:∀a∈R.asks,Cn a.nm/\RB 60 a.size):b9 (aJ R)=true:=by simp only[aJ,b9,cO,VF,UQ];exact⟨fk _ λq hq=>rW (h.room q hq).2 xp,fk _ λa ha=>Eg (hn a ha).2 (h.ask a ha) h.hi⟩
theorem Kn{R:aQ}(h:R.Ok)(hn:∀a∈R.asks,Cn a.nm/\RB 60 a.size):(Q5 (aJ R)).weight<=5000:=by have h1:=Br (f:=Rh) (c:=122) R.rooms λq hq=>Km (h.room q hq).2;have h2:=Br (f:=kg) (c:=150) R.asks λa ha=>MT (hn a ha) (h.ask a ha) h.hi;have h3:=h.hi;have h4:=h.few;have h5:R.rooms.length=R.n:=rfl;simp only[aJ,Q5,fX,PyData.weight,PyData.weightAll];omega
theorem MU{qs:List Rat}{n:Nat}(h:∀q∈qs,RB n q):(Q5 (.lst (qs.map Rh))).weight<=(2*n+3)*qs.length:=by have h1:=Br (f:=Rh) (c:=2*n+2) qs λq hq=>Km (h q hq);simp only[Q5,PyData.weight];exact h1
theorem Eh{qs:List Rat}{n:Nat}(h:∀q∈qs,RB n q)(hn:n<=1900):b9 (.lst (qs.map Rh))=true:=by simp only[b9];exact fk _ λq hq=>rW (h q hq) hn
theorem Ko(n:Nat)(qs:List Rat):Ri (n+2) (.lst (qs.map Rh))=true:=by simp only[Ri];exact iw _ λq _=>ya n q
theorem wb:∀{m n:Nat}(d:D),m<=n->Ri m d=true->Ri n d=true:=by
 intro m n d hmn h
 have:∀(m:Nat),(∀(n:Nat)(d:D),m<=n->Ri m d=true->Ri n d=true)/\∀(n:Nat)(ds:List D),m<=n->qN m ds=true->qN n ds=true:=by
  intro m
  induction m with
  | zero =>
   have h0:∀(n:Nat)(d:D),0<=n->Ri 0 d=true->Ri n d=true:=λn d _ h=>by cases d<;>cases n<;>simp_all [Ri]
   refine⟨h0,λn ds hn h=>?_⟩
   induction ds with
   |nil=>simp[qN]
   |cons x xs ih=>simp only[qN,UQ]at h ⊢;exact⟨h0 n x hn h.1,ih h.2⟩
  | succ m ih =>
   have h0:∀(n:Nat)(d:D),m+1<=n->Ri (m+1) d=true->Ri n d=true:=λn d hn h=>by
    obtain⟨k,rfl⟩:∃k,n=k+1:=⟨n-1,xL⟩;cases d<;>simp_all [Ri]
    all_goals exact ih.2 k _ xL h
   refine⟨h0,λn ds hn h=>?_⟩
   induction ds with
   |nil=>simp[qN]
   |cons x xs ihx=>simp only[qN,UQ]at h ⊢;exact⟨h0 n x hn h.1,ihx h.2⟩
 exact(this m).1 n d hmn h
theorem GZ{R:aQ}(h:R.Ok)(hn:∀a∈R.asks,Cn a.nm/\RB 60 a.size){ps:List Rat}{b:Nat}(hp:∀p∈ps,RB b p)(hb:b<=300)(hl:ps.length<=20):sW (.tup [aJ R,.lst (ps.map Rh)]):=by
 refine⟨?_,?_,?_⟩
 . simp only[Ri,qN,VF,UQ];exact⟨wb _ xp (Gy h),Ko 37 ps⟩
 . simp only[b9,cO,VF,UQ];exact⟨Cr h hn,by have:=Eh hp (UT hb xp);simpa only[b9]using this⟩
 . have h1:=Kn h hn;have h2:=MU hp;have h2':(2*b+3)*ps.length<=603*20:=Nat.mul_le_mul xL hl;simp only[Q5,fX,PyData.weight,PyData.weightAll]at h1 h2 ⊢;omega
noncomputable def dE(w:Bool):D:=.str (dD w)
theorem G0{g:Tg}{b:W Fl}{k4:Fl->Ev->Prop}{lo c:Int}(n:Nat)(I:Nat->Ev->Prop)(Z:Ev)(h0:I 0 Z)
  (step:∀j Z,j<n->I j Z->∀Q:Fl->Ev->Prop,(∀Z',I (j+1) Z'->Q .nx Z')->(∀Z',I (j+1) Z'->Q .ct Z')->(∀Z',k4 .nx Z'->Q .bk Z')->(∀r Z',k4 (.rt r) Z'->Q (.rt r) Z')->g (.int (lo+(j:Int)*c)) Z λZ1=>b Z1 Q)
  (done:∀Z,I n Z->k4 .nx Z):cu g b (CL lo c n) Z k4:=by
 refine cF _ (λj Z=>I j Z) Z h0 ?_ ?_
 .
  intro j x Z hj hI Q h1 h2 h3 h4;have hj':j<n:=by have:=(k5.mp hj).1;simpa[CL]using this
  have ex:x=.int (lo+(j:Int)*c):=by unfold CL at hj;rw[UU,VI hj']at hj;exact(U6 hj).symm
  subst ex;exact step j Z hj' hI Q h1 h2 h3 h4
 .
  intro Z hI;have e:(CL lo c n).length=n:=by simp[CL]
  rw[e]at hI;exact done Z hI
theorem MV{hi c:Int}{j:Nat}(hc:0<c)(h:j<Ib 0 hi c):c*j<hi:=by
 unfold Ib Builtin.Range.rangeSize at h;rw[if_pos hc]at h;split at h
 .
  rename_i h0;have h1:(j:Int)<=(hi-0-1) / c:=by omega
  have h2:c*(j:Int)<=c*((hi-0-1) / c):=Int.mul_le_mul_of_nonneg_left h1 xL;have h3:=Int.mul_ediv_self_le (x:=hi-0-1) (k:=c) xL;omega
 . omega
theorem zZ(q:Rat):0<q.num↔0<q:=by
 have h:=Rat.num_nonneg (q:=-q);rw[Rat.neg_num]at h;constructor
 .
  intro h1;refine Rat.not_le.mp λh2=>?_;have h3:0<=-q:=by grind
  have:=h.mpr h3;omega
 . intro h1;refine Int.not_le.mp λh2=>?_;have h3:=h.mp xL;grind
theorem Cs{g:Tg}{b:W Fl}{k4:Fl->Ev->Prop}{enc:Nat->D}(n:Nat)(I:Nat->Ev->Prop)(Z:Ev)(h0:I 0 Z)
  (step:∀j Z,j<n->I j Z->∀Q:Fl->Ev->Prop,(∀Z',I (j+1) Z'->Q .nx Z')->(∀Z',I (j+1) Z'->Q .ct Z')->(∀Z',k4 .nx Z'->Q .bk Z')->(∀r Z',k4 (.rt r) Z'->Q (.rt r) Z')->g (enc j) Z λZ1=>b Z1 Q)
  (done:∀Z,I n Z->k4 .nx Z):cu g b ((List.range n).map enc) Z k4:=by
 refine cF _ (λj Z=>I j Z) Z h0 ?_ ?_
 .
  intro j x Z hj hI Q h1 h2 h3 h4;have hj':j<n:=by have:=(k5.mp hj).1;simpa using this
  have ex:x=enc j:=by rw[UU,VI hj']at hj;exact(U6 hj).symm
  subst ex;exact step j Z hj' hI Q h1 h2 h3 h4
 .
  intro Z hI;have e:((List.range n).map enc).length=n:=by simp
  rw[e]at hI;exact done Z hI
end L2
set_option exponentiation.threshold 5000
namespace My
open PySem L2
structure LB (R:aQ) (ps:List Rat):Prop where
 p:∀p∈ps,RB 4100 p
 ld:∀k t,RB 4100 (MN R.n (R.asks.take k) (ps.take k) t)
 st:∀(k:Nat)(h1:k<R.asks.length)(h2:k<ps.length)(t:Nat),RB 4100 (Oe R.n R.asks[k] ps[k] t)
 sm:∀t,Of ((R.asks.zip ps).map λx=>Oe R.n x.1 x.2 t)
theorem LB.all{R:aQ}{ps:List Rat}(h:LB R ps)(hl:ps.length=R.asks.length)(t:Nat):RB 4100 (MN R.n R.asks ps t):=by have:=h.ld R.asks.length t;rwa [VU (US _),VU xL]at this
noncomputable def zI(R:aQ)(q:Rat)(t j:Nat):Int:=if yk R.n (ba R j) t then pI R q j else wI R q j-pI R q j
noncomputable def tF:D->Bool
 |.tup [.int i,.int j]=>decide (1<=j) && decide ((Int.gcd i j:Int)=1)
 |_=>false
theorem p9{d:D}(h:∀i j,d≠.tup [.int i,.int j]):tF d=false:=by
 unfold tF;split
 . rename_i i j;exact absurd rfl (h i j)
 . rfl
mutual
noncomputable def CM:D->Nat
 |.tup xs=>max xs.length (z4 xs)
 |.lst xs=>max xs.length (z4 xs)
 |_=>0
noncomputable def z4:List D->Nat
 |[]=>0
 |x::xs=>max (CM x) (z4 xs)
end
theorem Bt{n:Nat}:∀{xs:List D},(∀x∈xs,CM x<=n)->z4 xs<=n
 |[],_=>Vv _
 | y::ys,h=>by simp only[z4];have:=h y p4;have:=Bt (xs:=ys) λx hx=>h x (gV _ hx);omega
theorem Ei{n:Nat}(h:n<=99):n<=sizeLine:=UT h xp
theorem Kp(q:Rat):CM (Rh q)=2:=by simp[Rh,CM,z4]
theorem G1(a:RJ):CM (kg a)=4:=by have:=Kp a.size;simp[kg,CM,z4,this]
theorem Ej{as:List RJ}{n:Nat}(h:as.length<=n)(h2:4<=n):CM (.lst (as.map kg))<=n:=by
 simp only[CM,UN];have:=Bt (n:=4) (xs:=as.map kg) λx hx=>by obtain⟨q,_,rfl⟩:=VA.mp hx;rw[G1];exact US _
 omega
structure RV (n:Nat) (d:D):Prop where
 dep:Bb d<n
 wid:CM d<=99
theorem RV.mono{n m:Nat}{d:D}(h:RV n d)(hm:n<=m):RV m d:=⟨so h.dep hm,h.wid⟩
theorem Kq(q:Rat):Bb (Rh q)=1:=by simp[Rh,Bb,zF]
theorem G2(a:RJ):Bb (kg a)=2:=by have:=Kq a.size;simp[kg,Bb,zF,this]
theorem G3{xs:List D}{n:Nat}(h:∀x∈xs,Bb x<=n):Bb (.lst xs)<=n+1:=by simp only[Bb];have:=Bc h;omega
theorem Ek(as:List RJ):Bb (.lst (as.map kg))<=3:=G3 λx hx=>by obtain⟨q,_,rfl⟩:=VA.mp hx;rw[G2];exact US _
theorem RV.asks{as:List RJ}(h:as.length<=99):RV 4 (.lst (as.map kg)):=⟨by have:=Ek as;omega,Ej h xp⟩
mutual
theorem wb:∀(n:Nat)(d:D),Ri n d=true->Ri (n+1) d=true
 |_,.non,_=>by simp[Ri]
 |_,.bl _,_=>by simp[Ri]
 |_,.int _,_=>by simp[Ri]
 |_,.str x,h=>by simpa[Ri]using h
 |0,.tup _,h=>by simp[Ri]at h
 |0,.lst _,h=>by simp[Ri]at h
 | n+1,.tup xs,h=>by
  simp only[Ri]at h ⊢
  exact tG n xs h
 | n+1,.lst xs,h=>by
  simp only[Ri]at h ⊢
  exact tG n xs h
 |_,.dct _,h=>by simp[Ri]at h
 |_,.exc _ _ _,h=>by simp[Ri]at h
 |_,.fn _ _,h=>by simp[Ri]at h
 |_,.dk _ _,h=>by simp[Ri]at h
 |_,.gf _,h=>by simp[Ri]at h
theorem tG:∀(n:Nat)(ds:List D),qN n ds=true->qN (n+1) ds=true
 |_,[],_=>rfl
 | n,d::ds,h=>by
  simp only[qN,UQ]at h ⊢
  exact⟨wb n d h.1,tG n ds h.2⟩
end
end My
set_option exponentiation.threshold 5000
namespace My
open PySem L2
def Tw(R:aQ)(ps:List Rat):Prop:=∀k,k<R.asks.length->∃v:Int,0<=v/\v<=12/\ps.getD k 0=R.sz k*Rat.divInt v 12
end My
set_option exponentiation.threshold 5000
namespace My
open PySem L2
theorem Kr{d:D}(h:tF d=true):∃q:Rat,d=Rh q:=by
 by_cases hd:∃i j,d=.tup [.int i,.int j]
 .
  obtain⟨i,j,rfl⟩:=hd;have e:tF (.tup [.int i,.int j])=(decide (1<=j) && decide ((Int.gcd i j:Int)=1)):=rfl;rw[e,UQ]at h;have h1:=Wj h.1;have h2:=Wj h.2;refine⟨⟨i,j.toNat,xL,?_⟩,?_⟩
  .
   have:Int.gcd i j=1:=by omega
   show Nat.gcd i.natAbs j.toNat=1;have e2:j.natAbs=j.toNat:=by omega
   rw[<- e2];exact this
  . show D.tup [.int i,.int j]=D.tup [.int i,.int (j.toNat:Int)];rw[Int.toNat_of_nonneg xL]
 . rw[p9 λi j e=>hd ⟨i,j,e⟩]at h;cases h
end My
set_option exponentiation.threshold 5000
namespace My
open PySem L2
structure eB where
 k:Nat
 kw:Bool
 l:Nat
 lw:Bool
 am:Rat
noncomputable def RW(s:eB):D:=.tup [.int (s.k:Int),.str (dD s.kw),.int (s.l:Int),.str (dD s.lw),Rh s.am]
noncomputable def RX(R:aQ)(ps:List Rat)(k:Nat)(w:Bool):Rat:=if w then R.sz k-ps.getD k 0 else ps.getD k 0
noncomputable def RY(R:aQ)(ps:List Rat)(k:Nat)(kw:Bool)(l:Nat)(lw:Bool):Rat:=if RX R ps l lw<RX R ps k kw then RX R ps l lw else RX R ps k kw
noncomputable def RZ(p:Rat)(w:Bool)(am:Rat):Rat:=if w then p+am else p-am
noncomputable def R0(ps:List Rat)(s:eB):List Rat:=(ps.set s.k (RZ (ps.getD s.k 0) s.kw s.am)).set s.l (RZ ((ps.set s.k (RZ (ps.getD s.k 0) s.kw s.am)).getD s.l 0) s.lw s.am)
noncomputable def ky(n:Nat)(a:RJ)(aw:Bool)(b:RJ)(bw:Bool):Bool:=!((zW n a aw).any λt=>decide (t∈zW n b bw))
noncomputable def bP(n:Nat)(a b:RJ):Bool×Bool:=if ky n a true b true then(true,true)else if ky n a true b false then(true,false)else if ky n a false b true then(false,true)else(false,false)
structure dG (R:aQ) (ps:List Rat):Prop where
 ok:R.Ok
 len:ps.length=R.asks.length
 lo:∀k,k<ps.length->0<=ps.getD k 0/\ps.getD k 0<=R.sz k
 cd:∃D:Nat,0<D/\D<2^1500/\(∀a∈R.asks,a.size.den∣D)/\∀p∈ps,p.den∣D
theorem iL{R:aQ}{k:Nat}(h:k<R.asks.length):R.sz k=R.asks[k].size:=by unfold aQ.sz;rw[UK,UU,fI h];rfl
theorem bM{ps:List Rat}{k:Nat}(h:k<ps.length):ps.getD k 0=ps[k]:=by rw[UK,fI h];rfl
theorem R1{a b c:Rat}(h1:a<=b)(h2:b<c):a<c:=by rw[<- Rat.not_le]at h2 ⊢;exact λz=>h2 (WI z h1)
theorem Bu{q:Rat}{D:Nat}(h0:0<=q)(h1:q<((2^300:Nat):Rat))(d0:0<D)(d1:D<2^1500)(hd:q.den∣D):RB 1800 q:=RB.of_val (v:=300) (d:=1500) h0 (U1 (Wl d0 hd) d1) h1
theorem dG.sz_rb{R:aQ}{ps:List Rat}(h:dG R ps){k:Nat}(hk:k<ps.length):RB 1800 (R.sz k):=by
 have hk':k<R.asks.length:=by rw[<- h.len];exact hk
 rw[iL hk'];exact(h.ok.rb (UO hk')).mono xp
theorem dG.rb{R:aQ}{ps:List Rat}(h:dG R ps){k:Nat}(hk:k<ps.length):RB 1800 (ps.getD k 0):=by
 obtain⟨D,d0,d1,_,hd⟩:=h.cd;have hk':k<R.asks.length:=by rw[<- h.len];exact hk
 obtain⟨h1,h2⟩:=h.lo k hk;refine Bu h1 (R1 h2 ?_) d0 d1 (hd _ (by rw[bM hk];exact UO hk));rw[iL hk'];exact(h.ok.ask _ (UO hk')).lt
theorem qa{p q:Rat}{D:Nat}(d0:0<D)(h1:p.den∣D)(h2:q.den∣D):(p+q).den∣D:=by
 have e:p+q=Rat.divInt (ym D p+ym D q) (D:Int):=by
  have hD:((D:Int):Rat)≠0:=by have:(0:Rat)<(D:Rat):=Rat.natCast_pos.mpr d0;intro z;rw[show((D:Int):Rat)=(D:Rat)from rfl]at z;rw[z]at this;exact absurd this xp
  rw[Rat.divInt_eq_div,Rat.intCast_add,yn h1,yn h2,<- Rat.add_mul,Rat.div_def,Rat.mul_assoc,show((D:Nat):Rat)=((D:Int):Rat)from rfl,Rat.mul_inv_cancel _ hD,Rat.mul_one]
 rw[e];have:=zX (t:=ym D p+ym D q) (b:=(D:Int)) xL;simpa using this
theorem tH{p q:Rat}{D:Nat}(d0:0<D)(h1:p.den∣D)(h2:q.den∣D):(p-q).den∣D:=by rw[Vw];exact qa d0 h1 (by rw[Rat.neg_den];exact h2)
theorem dG.ns{R:aQ}{ps:List Rat}(h:dG R ps){k:Nat}(hk:k<ps.length)(w:Bool):0<=RX R ps k w/\RX R ps k w<=R.sz k:=by
 obtain⟨h1,h2⟩:=h.lo k hk;unfold RX;cases w
 . exact⟨h1,h2⟩
 .
  have h3:=(Rat.le_iff_sub_nonneg _ _).mp h2;refine⟨h3,?_⟩;show R.sz k-ps.getD k 0<=R.sz k;rw[Rat.le_iff_sub_nonneg];have:R.sz k-(R.sz k-ps.getD k 0)=ps.getD k 0:=by rw[Vw,Vw,Rat.neg_add,Rat.neg_neg,<- Rat.add_assoc,Rat.add_neg_cancel,Rat.zero_add]
  rw[this];exact h1
noncomputable def rm(a:RJ):Nat:=min a.one a.other
noncomputable def i9(a:RJ):Nat:=max a.one a.other
noncomputable def R3(a:RJ):Bool:=decide (a.one<a.other)
theorem yo{n:Nat}{a:RJ}(h:gC n a){t:Nat}(ht:t<n):(yk n a t == R3 a)=true↔rm a<=t/\t<i9 a:=by
 have h1:=h.one;have h2:=h.other;have h3:=h.ne;unfold yk rm i9 R3;rw[qR h1 ht,qR h1 h2];rw[beq_iff_eq,Wq];by_cases h4:a.one<a.other
 .
  rw[if_pos (show a.one<=a.other by omega)];by_cases h5:a.one<=t
  . rw[if_pos h5];omega
  . rw[if_neg h5];omega
 .
  rw[if_neg (show ¬a.one<=a.other by omega)];by_cases h5:a.one<=t
  . rw[if_pos h5];omega
  . rw[if_neg h5];omega
theorem wc{n:Nat}{a b:RJ}(ha:gC n a)(hb:gC n b){aw bw:Bool}(h:∀t,t<n->(yk n a t == aw)=true->(yk n b t == bw)=true->False):ky n a aw b bw=true:=by
 unfold ky;rw[Bool.not_eq_true',List.any_eq_false];intro t ht;rw[VM];intro hb'
 have htn:t<n:=by
  cases aw
  . exact((v9 ha.one ha.other ha.ne).mp ht).1
  . exact((Ec ha.one).mp ht).1
 exact h t htn ((wa ha aw htn).mp ht) ((wa hb bw htn).mp hb')
theorem yp{n:Nat}{a:RJ}(h:gC n a){t:Nat}(ht:t<n):(yk n a t == !R3 a)=true↔¬(rm a<=t/\t<i9 a):=by rw[<- yo h ht];cases yk n a t<;>cases R3 a<;>simp
noncomputable def ND(a b:RJ):Bool:=decide (rm a<rm b/\rm b<i9 a/\i9 a<i9 b) ||decide (rm b<rm a/\rm a<i9 b/\i9 b<i9 a)
theorem G4{n:Nat}{a b:RJ}(ha:gC n a)(hb:gC n b)(h:ND a b=false):ky n a (bP n a b).1 b (bP n a b).2=true:=by
 have ex:∃aw bw,ky n a aw b bw=true:=by
  unfold ND at h;rw[Bool.or_eq_false_iff,decide_eq_false_iff_not,decide_eq_false_iff_not]at h;have la:rm a<i9 a:=by have:=ha.ne;unfold rm i9;omega
  have lb:rm b<i9 b:=by have:=hb.ne;unfold rm i9;omega
  by_cases h1:i9 a<=rm b∨i9 b<=rm a
  . refine⟨R3 a,R3 b,wc ha hb λt ht p q=>?_⟩;have p:=(yo ha ht).mp p;have q:=(yo hb ht).mp q;omega
  .
   by_cases h2:rm b<=rm a/\i9 a<=i9 b
   . refine⟨R3 a,!R3 b,wc ha hb λt ht p q=>?_⟩;have p:=(yo ha ht).mp p;have q:=(yp hb ht).mp q;omega
   . refine⟨!R3 a,R3 b,wc ha hb λt ht p q=>?_⟩;have p:=(yp ha ht).mp p;have q:=(yo hb ht).mp q;omega
 unfold bP;split
 . assumption
 .
  split
  . assumption
  .
   split
   . assumption
   .
    obtain⟨aw,bw,e⟩:=ex
    cases aw<;>cases bw<;>first|exact e|contradiction
noncomputable def R4(R:aQ)(ps:List Rat)(k l:Nat)(w:Bool×Bool):eB:=⟨k,w.1,l,w.2,RY R ps k w.1 l w.2⟩
theorem dG.ms{R:aQ}{ps:List Rat}(h:dG R ps){k l:Nat}(hk:k<ps.length)(hl:l<ps.length)(kw lw:Bool):0<=RY R ps k kw l lw/\RY R ps k kw l lw<=RX R ps k kw/\RY R ps k kw l lw<=RX R ps l lw/\(RY R ps k kw l lw=RX R ps k kw∨RY R ps k kw l lw=RX R ps l lw):=by
 have h1:=h.ns hk kw;have h2:=h.ns hl lw;unfold RY;split
 . rename_i hlt;exact⟨h2.1,Rat.le_of_lt hlt,WL,.inr rfl⟩
 . rename_i hlt;exact⟨h1.1,WL,Rat.not_lt.mp hlt,.inl rfl⟩
noncomputable def R5(R:aQ)(k l:Nat):Bool:=ND (ba R k) (ba R l)
noncomputable def R6(cr:Nat->Nat->Bool):List Nat->Option (Nat×Nat)
 |[]=>none
 | k::ks=>match ks.find? (λl=>!cr k l)with
  |some l=>some (k,l)
  |none=>R6 cr ks
noncomputable def z5:Option (Nat×Nat)->D
 |none=>.non
 |some (k,l)=>.tup [.int (k:Int),.int (l:Int)]
theorem c7{R:aQ}{k:Nat}(h:k<R.asks.length):ba R k=R.asks[k]:=by unfold ba;rw[fI h];rfl
end My
set_option exponentiation.threshold 5000
namespace My
open PySem L2
noncomputable def R7(R:aQ)(ps:List Rat)(k:Nat):Bool:=decide (0<ps.getD k 0) && decide (ps.getD k 0<R.sz k)
noncomputable def R8(R:aQ)(ps:List Rat):List Nat:=(List.range ps.length).filter (R7 R ps)
theorem kO{R:aQ}{ps:List Rat}{k:Nat}(h:k∈R8 R ps):k<ps.length/\R7 R ps k=true:=by obtain⟨h1,h2⟩:=VG.mp h;exact⟨Vd.mp h1,h2⟩
theorem qS(R:aQ)(ps:List Rat):(R8 R ps).Pairwise (· < ·):=List.Pairwise.filter _ List.pairwise_lt_range
theorem rX{cr:Nat->Nat->Bool}:∀{ks:List Nat}{k l:Nat},ks.Pairwise (· < ·)->R6 cr ks=some (k,l)->k∈ks/\l∈ks/\k<l/\cr k l=false
 |[],_,_,_,h=>by cases h
 | a::ks,k,l,hp,h=>by
  obtain⟨p1,p2⟩:=Wb.mp hp;unfold R6 at h
  cases e:ks.find? (λl=>!cr a l)with
  | none =>
   rw[e]at h;obtain⟨h1,h2,h3,h4⟩:=rX p2 h;exact⟨gV _ h1,gV _ h2,h3,h4⟩
  | some m =>
   rw[e]at h;cases h;have hm:=List.mem_of_find?_eq_some e;have hc:=List.find?_some e;exact⟨p4,gV _ hm,p1 _ hm,by simpa using hc⟩
theorem wd{cr:Nat->Nat->Bool}:∀{ks:List Nat},ks.Pairwise (· < ·)->R6 cr ks=none->∀k l,k∈ks->l∈ks->k<l->cr k l=true
 |[],_,_,_,_,hk,_,_=>by cases hk
 | a::ks,hp,h,k,l,hk,hl,hkl=>by
  obtain⟨p1,p2⟩:=Wb.mp hp;unfold R6 at h
  cases e:ks.find? (λl=>!cr a l)with
  |some m=>rw[e]at h;cases h
  | none =>
   rw[e]at h;rcases UV.mp hk with ek|hk'
   .
    subst ek;rcases UV.mp hl with el|hl'
    . omega
    . have:=List.find?_eq_none.mp e l hl';simpa using this
   .
    rcases UV.mp hl with el|hl'
    . have:=p1 k hk';omega
    . exact wd p2 h k l hk' hl' hkl
theorem Ks(p s:Rat):p+(s-p)=s:=by rw[Vw,<- Rat.add_assoc,Rat.add_comm p s,Rat.add_assoc,Rat.add_neg_cancel,Rat.add_zero]
theorem El(p:Rat):p-p=0:=by rw[Vw,Rat.add_neg_cancel]
theorem Kt{p a:Rat}(h:a<=p):0<=p-a:=(Rat.le_iff_sub_nonneg _ _).mp h
theorem G5{p a:Rat}(h:0<=a):p-a<=p:=by rw[Rat.le_iff_sub_nonneg,Vw,Vw,Rat.neg_add,Rat.neg_neg,<- Rat.add_assoc,Rat.add_neg_cancel,Rat.zero_add];exact h
theorem Ku{p a:Rat}(h1:0<=p)(h2:0<=a):0<=p+a:=Rat.add_nonneg h1 h2
structure MW (R:aQ) (ps:List Rat) (s:eB):Prop where
 k:s.k<ps.length
 l:s.l<ps.length
 kl:s.k≠s.l
 nn:0<=s.am
 kn:s.am<=RX R ps s.k s.kw
 ln:s.am<=RX R ps s.l s.lw
theorem kP(ps:List Rat)(s:eB):(R0 ps s).length=ps.length:=by simp[R0]
theorem yq{ps:List Rat}{s:eB}(hk:s.k<ps.length)(hl:s.l<ps.length)(hkl:s.k≠s.l)(i:Nat):(R0 ps s).getD i 0=if i=s.k then RZ (ps.getD s.k 0) s.kw s.am else if i=s.l then RZ (ps.getD s.l 0) s.lw s.am else ps.getD i 0:=by
 have e0:(ps.set s.k (RZ (ps.getD s.k 0) s.kw s.am)).getD s.l 0=ps.getD s.l 0:=by rw[UK,Vp hkl,<- UK]
 unfold R0;rw[e0,UK];by_cases h1:i=s.k
 . subst h1;rw[if_pos rfl,Vp (VB hkl),Vo hk];rfl
 .
  rw[if_neg h1];by_cases h2:i=s.l
  . subst h2;rw[if_pos rfl,Vo (by simpa using hl)];rfl
  . rw[if_neg h2,Vp (VB h2),Vp (VB h1),UK]
theorem Bv{R:aQ}{ps:List Rat}{k:Nat}{w:Bool}{am:Rat}(h1:0<=ps.getD k 0)(h2:ps.getD k 0<=R.sz k)(a0:0<=am)(a1:am<=RX R ps k w):0<=RZ (ps.getD k 0) w am/\RZ (ps.getD k 0) w am<=R.sz k:=by
 unfold RX at a1;unfold RZ
 cases w with
 | true =>
  simp only[Ww]at a1 ⊢;refine⟨Ku h1 a0,?_⟩;have:=(Rat.add_le_add_left (c:=ps.getD k 0)).mpr a1;rwa [Ks]at this
 | false =>
  simp only[V2,Wv]at a1 ⊢;exact⟨Kt a1,WI (G5 a0) h2⟩
theorem dG.slid{R:aQ}{ps:List Rat}{s:eB}(h:dG R ps)(hs:MW R ps s)(hd:∀D:Nat,0<D->(∀a∈R.asks,a.size.den∣D)->(∀p∈ps,p.den∣D)->s.am.den∣D):dG R (R0 ps s):=by
 refine⟨h.ok,by rw[kP];exact h.len,λi hi=>?_,?_⟩
 .
  rw[kP]at hi;rw[yq hs.k hs.l hs.kl];split
  . rename_i e;subst e;exact Bv (h.lo _ hs.k).1 (h.lo _ hs.k).2 hs.nn hs.kn
  .
   split
   . rename_i e;subst e;exact Bv (h.lo _ hs.l).1 (h.lo _ hs.l).2 hs.nn hs.ln
   . exact h.lo i hi
 .
  obtain⟨D,d0,d1,da,dp⟩:=h.cd;have dm:=hd D d0 da dp;have dk:∀k,k<ps.length->(ps.getD k 0).den∣D:=λk hk=>dp _ (by rw[bM hk];exact UO hk)
  have db:∀(k:Nat)(w:Bool),k<ps.length->(RZ (ps.getD k 0) w s.am).den∣D:=λk w hk=>by
   unfold RZ;cases w
   . exact tH d0 (dk k hk) dm
   . exact qa d0 (dk k hk) dm
  refine⟨D,d0,d1,da,λp hp=>?_⟩;obtain⟨i,hi,rfl⟩:=Vu hp;rw[<- bM hi,yq hs.k hs.l hs.kl];rw[kP]at hi;split
  . exact db _ _ hs.k
  .
   split
   . exact db _ _ hs.l
   . exact dk i hi
theorem Bw{R:aQ}{ps:List Rat}(h:dG R ps){k:Nat}(hk:k<ps.length)(w:Bool){D:Nat}(d0:0<D)(da:∀a∈R.asks,a.size.den∣D)(dp:∀p∈ps,p.den∣D):(RX R ps k w).den∣D:=by
 have hk':k<R.asks.length:=by rw[<- h.len];exact hk
 have e1:(ps.getD k 0).den∣D:=dp _ (by rw[bM hk];exact UO hk);unfold RX;cases w
 . exact e1
 . refine tH d0 ?_ e1;rw[iL hk'];exact da _ (UO hk')
theorem Iq{R:aQ}{ps:List Rat}(h:dG R ps){k l:Nat}(hk:k<ps.length)(hl:l<ps.length)(hkl:k≠l)(w:Bool×Bool):MW R ps (R4 R ps k l w):=by obtain⟨m1,m2,m3,_⟩:=h.ms hk hl w.1 w.2;exact⟨hk,hl,hkl,m1,m2,m3⟩
theorem Ir{R:aQ}{ps:List Rat}(h:dG R ps){k l:Nat}(hk:k<ps.length)(hl:l<ps.length)(hkl:k≠l)(w:Bool×Bool):dG R (R0 ps (R4 R ps k l w)):=by
 refine h.slid (Iq h hk hl hkl w) λD d0 da dp=>?_;show(RY R ps k w.1 l w.2).den∣D;rcases(h.ms hk hl w.1 w.2).2.2.2 with e|e
 . rw[e];exact Bw h hk _ d0 da dp
 . rw[e];exact Bw h hl _ d0 da dp
theorem Iu{R:aQ}{ps:List Rat}{k:Nat}{w:Bool}:¬(0<RZ (ps.getD k 0) w (RX R ps k w)/\RZ (ps.getD k 0) w (RX R ps k w)<R.sz k):=by
 unfold RZ RX
 cases w with
 | true =>
  simp only[Ww];rw[Ks];exact λz=>Rat.lt_irrefl z.2
 | false =>
  simp only[V2,Wv];rw[El];exact λz=>Rat.lt_irrefl z.1
theorem z6{p q:Nat->Bool}:∀{l:List Nat}{x:Nat},(∀y∈l,q y=true->p y=true)->x∈l->p x=true->q x=false->(l.filter q).length<(l.filter p).length
 |[],_,_,hx,_,_=>by cases hx
 | a::l,x,h,hx,hp,hq=>by
  have le:∀m:List Nat,(∀y∈m,q y=true->p y=true)->(m.filter q).length<=(m.filter p).length:=λm hm=>by
   induction m with
   |nil=>exact US _
   | cons b m ih =>
    have ih:=ih λy hy=>hm y (gV _ hy);have hb:=hm b p4;rw[VW,VW];cases e1:q b<;>cases e2:p b<;>simp_all<;>omega
  have h':∀y∈l,q y=true->p y=true:=λy hy=>h y (gV _ hy);rw[VW,VW];rcases UV.mp hx with rfl|hx
  . rw[hp,hq];have:=le l h';simp;omega
  . have ih:=z6 h' hx hp hq;have hb:=h a p4;cases e1:q a<;>cases e2:p a<;>simp_all<;>omega
theorem Bx{R:aQ}{ps:List Rat}(h:dG R ps){k l:Nat}(hk:k∈R8 R ps)(hl:l∈R8 R ps)(hkl:k≠l)(w:Bool×Bool):(R8 R (R0 ps (R4 R ps k l w))).length<(R8 R ps).length:=by
 obtain⟨hk1,hk2⟩:=kO hk;obtain⟨hl1,hl2⟩:=kO hl;have at_:=yq (s:=R4 R ps k l w) hk1 hl1 hkl;unfold R8;rw[kP]
 have up:∀y∈List.range ps.length,R7 R (R0 ps (R4 R ps k l w)) y=true->R7 R ps y=true:=λy _ hy=>by
  unfold R7 at hy ⊢;rw[at_]at hy;by_cases e1:y=k
  . subst e1;exact hk2
  .
   by_cases e2:y=l
   . subst e2;exact hl2
   . rw[if_neg (show ¬y=(R4 R ps k l w).k from e1),if_neg (show ¬y=(R4 R ps k l w).l from e2)]at hy;exact hy
 rcases(h.ms hk1 hl1 w.1 w.2).2.2.2 with e|e
 . refine z6 up (Vd.mpr hk1) hk2 ?_;unfold R7;rw[at_,if_pos (show k=(R4 R ps k l w).k from rfl)];show(decide (0<RZ (ps.getD k 0) w.1 (RY R ps k w.1 l w.2)) && decide (RZ (ps.getD k 0) w.1 (RY R ps k w.1 l w.2)<R.sz k))=false;rw[e];have:=Iu (R:=R) (ps:=ps) (k:=k) (w:=w.1);rw[<- Bool.not_eq_true,UQ,UP,UP];exact this
 . refine z6 up (Vd.mpr hl1) hl2 ?_;unfold R7;rw[at_,if_neg (show ¬l=(R4 R ps k l w).k from VB hkl),if_pos (show l=(R4 R ps k l w).l from rfl)];show(decide (0<RZ (ps.getD l 0) w.2 (RY R ps k w.1 l w.2)) && decide (RZ (ps.getD l 0) w.2 (RY R ps k w.1 l w.2)<R.sz l))=false;rw[e];have:=Iu (R:=R) (ps:=ps) (k:=l) (w:=w.2);rw[<- Bool.not_eq_true,UQ,UP,UP];exact this
noncomputable def rn(R:aQ)(ps:List Rat):Option eB:=(R6 (R5 R) (R8 R ps)).map λp=>R4 R ps p.1 p.2 (bP R.n (ba R p.1) (ba R p.2))
noncomputable def kB(R:aQ):Nat->List Rat->List eB
 |0,_=>[]
 | n+1,ps=>match rn R ps with
  |none=>[]
  |some s=>s::kB R n (R0 ps s)
theorem tI{R:aQ}{ps:List Rat}(h:dG R ps){k:Nat}(hk:k<ps.length)(w:Bool):RB 3700 (RX R ps k w):=by
 unfold RX;cases w
 . exact(h.rb hk).mono xp
 . exact((h.sz_rb hk).sub (h.rb hk)).mono xp
theorem Kv{R:aQ}{ps:List Rat}{k:Nat}(w:Bool):R.sz k-RX R ps k (!w)=RX R ps k w:=by
 unfold RX;cases w
 . show R.sz k-(R.sz k-ps.getD k 0)=ps.getD k 0;rw[Vw,Vw,Rat.neg_add,Rat.neg_neg,<- Rat.add_assoc,Rat.add_neg_cancel,Rat.zero_add]
 . rfl
theorem Kw{R:aQ}{ps:List Rat}{k l:Nat}{kw lw:Bool}{am:Rat}:RY R ps k kw l lw<am↔RX R ps k kw<am∨RX R ps l lw<am:=by
 unfold RY;split
 . rename_i h;exact⟨.inr,λz=>z.elim (λq=>R1 (Rat.le_of_lt h) q) id⟩
 . rename_i h;exact⟨.inl,λz=>z.elim id λq=>R1 (Rat.not_lt.mp h) q⟩
end My
set_option exponentiation.threshold 5000
namespace My
open PySem L2
noncomputable def Rc(R:aQ)(ps:List Rat)(s:eB):Bool:=!decide (s.k=s.l) && (ky R.n (ba R s.k) s.kw (ba R s.l) s.lw && (decide (0<s.am) && !decide (RY R ps s.k s.kw s.l s.lw<s.am)))
theorem Iv{R:aQ}{ps:List Rat}{k:Nat}(h:R7 R ps k=true)(w:Bool):0<RX R ps k w:=by
 unfold R7 at h;rw[UQ,UP,UP]at h;unfold RX;cases w
 . exact h.1
 . show 0<R.sz k-ps.getD k 0;have:=h.2;rw[<- Rat.not_le]at this ⊢;intro z;apply this;have:=(Rat.add_le_add_left (c:=ps.getD k 0)).mpr z;rw[Ks,Rat.add_zero]at this;exact this
theorem jG{R:aQ}{ps:List Rat}{s:eB}(h:dG R ps)(e:rn R ps=some s):MW R ps s/\Rc R ps s=true/\dG R (R0 ps s)/\(R8 R (R0 ps s)).length<(R8 R ps).length/\RB 4000 s.am/\s.k∈R8 R ps/\s.l∈R8 R ps:=by
 unfold rn at e
 cases e1:R6 (R5 R) (R8 R ps)with
 |none=>rw[e1]at e;cases e
 | some p =>
  obtain⟨k,l⟩:=p;rw[e1]at e;obtain⟨hk,hl,hkl,hc⟩:=rX (qS R ps) e1;obtain⟨hk1,hk2⟩:=kO hk;obtain⟨hl1,hl2⟩:=kO hl;have hk':k<R.asks.length:=by rw[<- h.len];exact hk1
  have hl':l<R.asks.length:=by rw[<- h.len];exact hl1
  have hkl':k≠l:=by omega
  have ee:R4 R ps k l (bP R.n (ba R k) (ba R l))=s:=U6 e;subst ee;refine⟨Iq h hk1 hl1 hkl' _,?_,Ir h hk1 hl1 hkl' _,Bx h hk hl hkl' _,?_,hk,hl⟩
  .
   unfold Rc;show(!decide (k=l) && (ky R.n (ba R k) (bP R.n (ba R k) (ba R l)).1 (ba R l) (bP R.n (ba R k) (ba R l)).2 && (decide (0<RY R ps k (bP R.n (ba R k) (ba R l)).1 l (bP R.n (ba R k) (ba R l)).2) && !decide (RY R ps k (bP R.n (ba R k) (ba R l)).1 l (bP R.n (ba R k) (ba R l)).2<RY R ps k (bP R.n (ba R k) (ba R l)).1 l (bP R.n (ba R k) (ba R l)).2))))=true;rw[UM hkl',G4 (by rw[c7 hk'];exact h.ok.ask _ (UO hk')) (by rw[c7 hl'];exact h.ok.ask _ (UO hl')) hc,UM (Rat.lt_irrefl),UX]
   . rfl
   .
    rcases(h.ms hk1 hl1 (bP R.n (ba R k) (ba R l)).1 (bP R.n (ba R k) (ba R l)).2).2.2.2 with z|z
    . rw[z];exact Iv hk2 _
    . rw[z];exact Iv hl2 _
  .
   show RB 4000 (RY R ps k _ l _);rcases(h.ms hk1 hl1 (bP R.n (ba R k) (ba R l)).1 (bP R.n (ba R k) (ba R l)).2).2.2.2 with z|z
   . rw[z];exact(tI h hk1 _).mono xp
   . rw[z];exact(tI h hl1 _).mono xp
theorem G6{R:aQ}{ps:List Rat}(e:rn R ps=none):R6 (R5 R) (R8 R ps)=none:=by
 unfold rn at e
 cases e1:R6 (R5 R) (R8 R ps)with
 |none=>rfl
 |some p=>rw[e1]at e;cases e
theorem we{R:aQ}:∀(m:Nat)(ps:List Rat),dG R ps->(kB R m ps).length<=(R8 R ps).length
 |0,_,_=>Vv _
 | m+1,ps,h=>by
  unfold kB
  cases e:rn R ps with
  |none=>exact Vv _
  | some s =>
   obtain⟨_,_,h2,h3,_⟩:=jG h e;have:=we m (R0 ps s) h2;simp only[V9];omega
end My
set_option exponentiation.threshold 5000
namespace My
open PySem L2
end My
set_option exponentiation.threshold 5000
namespace My
open PySem L2
theorem Em(R:aQ):fh (R.asks.map kg)=(List.range R.asks.length).map λ(k:Nat)=>D.tup [.int (k:Int),kg (ba R k)]:=by
 apply List.ext_getElem?;intro k;by_cases hk:k<R.asks.length
 . rw[UU,VI hk];simp[fh,hk,ba]
 . rw[VZ (by simp[fh];omega),VZ (by simp;omega)]
noncomputable def rY:D->Bool
 |.str z=>decide (z=Str.ofString "on") ||decide (z=Str.ofString "back")
 |_=>false
theorem En(z:Str):QJ (.str z) [.str (Str.ofString "on"),.str (Str.ofString "back")]=rY (.str z):=by
 have e1:(Str.ofString "on" == z)=decide (z=Str.ofString "on"):=by rw[VT,beq_iff_eq,VM]; exact eq_comm
 have e2:(Str.ofString "back" == z)=decide (z=Str.ofString "back"):=by rw[VT,beq_iff_eq,VM]; exact eq_comm
 show(Str.ofString "on" == z ||(Str.ofString "back" == z ||false))=_;rw[e1,e2,Bool.or_false];rfl
theorem Eo{h:D->D}{caps:Ev}{te:W L}{k:List D->Ev->Prop}(xs:List D)(acc:List D)(l:L)
  (step:∀a∈xs,∀Q:Ev->D->Prop,Q (.d a::caps) (h a)->te (.d a::caps) λr Z3=>QS r λy=>Q Z3 y)
  (Qd:∀l',k (acc++xs.map h) (l'::caps)):eI (bj 0) kK te xs (l::caps) acc k:=by
 have:=oU (enc:=id) (h:=h) xs acc l step Qd;rwa [List.map_id]at this
structure Pt (n:Nat) (d:D):Prop where
 dep:Bb d<=n
 wid:CM d<=99
 same:Be (20+n) d=true
theorem Pt.int(i:Int):Pt 0 (.int i):=⟨by simp[Bb],by simp[CM],by simp[Be]⟩
theorem Pt.str(z:Str):Pt 0 (.str z):=⟨by simp[Bb],by simp[CM],by simp[Be]⟩
end My
set_option exponentiation.threshold 5000
namespace My
open PySem L2
noncomputable def kQ:D->Option Bool
 |.str z=>if z=dD true then some true else if z=dD false then some false else none
 |_=>none
noncomputable def nK:D->Option Nat
 |.int i=>if 0<=i then some i.toNat else none
 |_=>none
noncomputable def wg(d:D):Option Rat:=match d with
 |.tup [.int i,.int j]=>if tF (.tup [.int i,.int j])then some (Rat.divInt i j)else none
 |_=>none
noncomputable def rZ:D->Option eB
 | .tup [a,b,c,d,e]=>match nK a,kQ b,nK c,kQ d,wg e with
  |some k,some kw,some l,some lw,some am=>some ⟨k,kw,l,lw,am⟩
  |_,_,_,_,_=>none
 |_=>none
theorem oY{d:D}{w:Bool}(h:kQ d=some w):d=.str (dD w):=by
 unfold kQ at h;split at h
 .
  split at h
  . rename_i e;cases h;rw[e]
  .
   split at h
   . rename_i e;cases h;rw[e]
   . cases h
 . cases h
theorem tJ(w:Bool):kQ (.str (dD w))=some w:=by cases w<;>decide +kernel
theorem qc(d:D):rY d=(kQ d).isSome:=by
 unfold rY kQ
 cases d with
 | str z =>
  have e1:dD true=Str.ofString "on":=rfl;have e2:dD false=Str.ofString "back":=rfl;rw[<- e1,<- e2];by_cases h1:z=dD true
  . simp[h1]
  .
   by_cases h2:z=dD false
   . simp[h1,h2];split<;>rfl
   . simp[h1,h2]
 |_=>rfl
theorem r6{d:D}{k:Nat}(h:nK d=some k):d=.int (k:Int):=by
 unfold nK at h;split at h
 .
  split at h
  .
   cases h
   congr 1
   omega
  . cases h
 . cases h
theorem Ep(k:Nat):nK (.int (k:Int))=some k:=by
 show(if(0:Int)<=(k:Int)then some ((k:Int)).toNat else none)=_
 rw[if_pos (by omega)];rfl
theorem By{d:D}{q:Rat}(h:wg d=some q):d=Rh q:=by
 unfold wg at h;split at h
 .
  rename_i i j;split at h
  .
   rename_i e;cases h;show D.tup [.int i,.int j]=_;have e':(decide (1<=j) && decide ((Int.gcd i j:Int)=1))=true:=e;rw[UQ,UP,UP]at e';obtain⟨h1,h2⟩:=e';have h3:Nat.gcd i.natAbs j.natAbs=1:=Int.ofNat_inj.mp h2;obtain⟨m,rfl⟩:=V3 (show 0<=j by omega);have hm:m≠0:=by omega
   have h3':i.natAbs.Coprime m:=by rw[U5]at h3;exact h3
   have em:Rat.divInt i (m:Int)=Rat.mk' i m hm h3':=by rw[Rat.mk_eq_divInt]
   rw[em];rfl
  . cases h
 . cases h
theorem Bz(q:Rat):tF (Rh q)=true:=by unfold Rh tF;have h1:=q.den_pos;have h2:=q.reduced;unfold Nat.Coprime at h2;rw[UQ,UP,UP];refine⟨xL,?_⟩;show((Nat.gcd q.num.natAbs ((q.den:Int)).natAbs:Nat):Int)=1;rw[U5,h2];rfl
theorem G7(q:Rat):wg (Rh q)=some q:=by
 show(if tF (.tup [.int q.num,.int (q.den:Int)])then some (Rat.divInt q.num (q.den:Int))else none)=_
 rw[show tF (.tup [.int q.num,.int (q.den:Int)])=true from Bz q,if_pos rfl,Vm]
theorem Er(d:D):tF d=(wg d).isSome:=by
 by_cases h:∃i j,d=.tup [.int i,.int j]
 .
  obtain⟨i,j,rfl⟩:=h
  show _=(if tF (.tup [.int i,.int j])then some (Rat.divInt i j)else none).isSome
  cases e:tF (.tup [.int i,.int j])<;>rfl
 .
  have hn:∀i j,d≠.tup [.int i,.int j]:=λi j e=>h ⟨i,j,e⟩;rw[p9 hn];unfold wg;split
  . exact absurd rfl (hn _ _)
  . rfl
theorem kR(s:eB):rZ (RW s)=some s:=by simp only[RW,rZ,Ep,tJ,G7]
theorem z7{d:D}{s:eB}(h:rZ d=some s):d=RW s:=by
 unfold rZ at h;split at h
 .
  split at h
  . rename_i h1 h2 h3 h4 h5;cases h;rw[r6 h1,oY h2,r6 h3,oY h4,By h5];rfl
  . cases h
 . cases h
noncomputable def rq(n:Nat)(d:D):Bool:=match rZ d with
 |some s=>decide (s.k<n) && decide (s.l<n)
 |none=>false
noncomputable def kC(d:D)(n:Int):Bool:=match d with
 |.int i=>decide (0<=i/\i<n)
 |_=>false
theorem r9(d:D)(n:Nat):kC d (n:Int)=match nK d with|some k=>decide (k<n)|none=>false:=by
 unfold kC nK
 cases d with
 | int i =>
  by_cases h:0<=i
  . simp only[h,Ww,true_and];rw[Wq];omega
  . simp only[h,Wv,false_and,decide_false]
 |_=>rfl
theorem wj(n:Nat)(a b c d e:D):rq n (.tup [a,b,c,d,e])=(kC a n && (kC c n && (rY b && (rY d && tF e)))):=by
 rw[r9,r9,qc,qc,Er];unfold rq
 have e0:rZ (.tup [a,b,c,d,e])=match nK a,kQ b,nK c,kQ d,wg e with
  |some k,some kw,some l,some lw,some am=>some ⟨k,kw,l,lw,am⟩
  |_,_,_,_,_=>none:=rfl
 rw[e0];cases nK a<;>cases kQ b<;>cases nK c<;>cases kQ d<;>cases wg e<;>simp
theorem yr{n:Nat}{xs:List D}(h:xs.length≠5):rq n (.tup xs)=false:=by
 have:rZ (.tup xs)=none:=by
  unfold rZ;split
  . rename_i eq;cases eq;exact absurd rfl h
  . rfl
 unfold rq;rw[this]
theorem BA{n:Nat}{d:D}(h:∀xs,d≠.tup xs):rq n d=false:=by
 have:rZ d=none:=by
  unfold rZ;split
  . exact absurd rfl (h _)
  . rfl
 unfold rq;rw[this]
theorem OX{xs:List D}(h:xs.length=5):∃a b c d e,xs=[a,b,c,d,e]:=by
 match xs,h with
 |[a,b,c,d,e],_=>exact⟨a,b,c,d,e,rfl⟩
noncomputable def R9(R:aQ)(ps:List Rat)(d:D):Bool:=match rZ d with
 |some s=>decide (s.k<ps.length) && (decide (s.l<ps.length) && Rc R ps s)
 |none=>false
theorem BB{R:aQ}{ps:List Rat}{s:eB}(hk:s.k<ps.length)(hl:s.l<ps.length):R9 R ps (RW s)=Rc R ps s:=by unfold R9;rw[kR];simp[hk,hl]
theorem Iw{R:aQ}{ps:List Rat}{d:D}(h:R9 R ps d=true):∃s,d=RW s/\s.k<ps.length/\s.l<ps.length/\Rc R ps s=true:=by
 unfold R9 at h;split at h
 . rename_i s e;rw[UQ,UQ,UP,UP]at h;exact⟨s,z7 e,h.1,h.2.1,h.2.2⟩
 . cases h
end My
set_option exponentiation.threshold 5000
namespace My
open PySem L2
theorem z8{R:aQ}{ps:List Rat}{s:eB}(h:dG R ps)(e:rn R ps=some s){D:Nat}(d0:0<D)(da:∀a∈R.asks,a.size.den∣D)(dp:∀p∈ps,p.den∣D):s.am.den∣D:=by
 unfold rn at e
 cases e1:R6 (R5 R) (R8 R ps)with
 |none=>rw[e1]at e;cases e
 | some p =>
  obtain⟨k,l⟩:=p;rw[e1]at e;obtain⟨hk,hl,hkl,hc⟩:=rX (qS R ps) e1;obtain⟨hk1,hk2⟩:=kO hk;obtain⟨hl1,hl2⟩:=kO hl;have ee:R4 R ps k l (bP R.n (ba R k) (ba R l))=s:=U6 e;subst ee;show(RY R ps k _ l _).den∣D;rcases(h.ms hk1 hl1 (bP R.n (ba R k) (ba R l)).1 (bP R.n (ba R k) (ba R l)).2).2.2.2 with z|z
  . rw[z];exact Bw h hk1 _ d0 da dp
  . rw[z];exact Bw h hl1 _ d0 da dp
theorem G8{R:aQ}{ps:List Rat}{m:Nat}{s:eB}{ss:List eB}(h:kB R m ps=s::ss):∃m',m=m'+1/\rn R ps=some s/\ss=kB R m' (R0 ps s):=by
 cases m with
 |zero=>cases h
 | succ m =>
  unfold kB at h
  cases e:rn R ps with
  |none=>rw[e]at h;cases h
  | some u =>
   rw[e]at h;cases h;exact⟨m,rfl,rfl,rfl⟩
theorem MX{n:Nat}{q:Rat}(h:RB n q):RB n (-q):=by
 refine⟨?_,?_⟩
 . rw[Rat.neg_num,Int.natAbs_neg];exact h.1
 . rw[Rat.neg_den];exact h.2
noncomputable def Iy(n:Nat)(d:D):Bool:=match d with
 |.lst xs=>decide (xs.length=n) && xs.all rY
 |_=>false
end My
set_option exponentiation.threshold 5000
namespace My
open PySem L2
noncomputable def iy(R:aQ):Nat->List Rat->List Rat
 |0,ps=>ps
 | m+1,ps=>match rn R ps with
  |none=>ps
  |some s=>iy R m (R0 ps s)
theorem BC{R:aQ}:∀(m:Nat)(ps:List Rat),dG R ps->(R8 R ps).length<=m->rn R (iy R m ps)=none
 | 0,ps,h,hm=>by
  cases e:rn R (iy R 0 ps)with
  |none=>rfl
  | some s =>
   have:=(jG h e).2.2.2.1;omega
 | m+1,ps,h,hm=>by
  unfold iy
  cases e:rn R ps with
  |none=>exact e
  | some s =>
   obtain⟨_,_,h3,h4,_⟩:=jG h e;exact BC m (R0 ps s) h3 xL
theorem Kx{R:aQ}{m:Nat}{qs:List Rat}(h:kB R m qs=[]):iy R m qs=qs:=by
 cases m with
 |zero=>rfl
 | succ m =>
  unfold kB at h;unfold iy
  cases e:rn R qs with
  |none=>rfl
  |some s=>rw[e]at h;cases h
theorem G9{R:aQ}{m:Nat}{qs:List Rat}{s:eB}(e:rn R qs=some s):iy R (m+1) qs=iy R m (R0 qs s):=by rw[show iy R (m+1) qs=(match rn R qs with|none=>qs|some s=>iy R m (R0 qs s))from rfl,e]
end My
set_option exponentiation.threshold 5000
namespace My
open PySem L2
noncomputable def Sb(a:RJ):Nat:=min a.one a.other
noncomputable def Sd(R:aQ)(k:Nat):Nat:=Sb (R.asks.getD k ⟨"",0,0,0⟩)
noncomputable def pO(R:aQ)(k:Nat):Bool:=decide ((R.asks.getD k ⟨"",0,0,0⟩).one < (R.asks.getD k ⟨"",0,0,0⟩).other)
noncomputable def Se(R:aQ)(ks:List Nat)(g:Rat):Rat:=ks.foldl (λg k=>if g<R.sz k then R.sz k else g) g
noncomputable def bZ(R:aQ)(ks:List Nat):Rat:=Se R ks 0*(1 / 2)
noncomputable def cy(R:aQ)(ps:List Rat)(k:Nat)(w:Bool):Rat:=(if w=pO R k then R.sz k else 0)-(if pO R k=true then ps.getD k 0 else R.sz k-ps.getD k 0)
noncomputable def Sf(R:aQ)(ps:List Rat)(hf t:Rat)(k:Nat):Bool:=if hf<t+cy R ps k (pO R k)then !pO R k else pO R k
noncomputable def Sg(R:aQ)(ps:List Rat)(hf:Rat):Rat->List Bool->List Nat->List Bool
 |_,ws,[]=>ws
 |t,ws,k::os=>Sg R ps hf (t+cy R ps k (Sf R ps hf t k)) (ws.set k (Sf R ps hf t k)) os
noncomputable def Sh(R:aQ)(ps:List Rat):List Bool:=(R.asks.zip ps).map λx=>decide (x.2=x.1.size)
noncomputable def Si(R:aQ)(ps:List Rat)(ks:List Nat)(ws:List Bool)(k:Nat):Bool:=decide (k∈ks) ||decide (R.sz k=0) ||decide (ws.getD k true=decide (ps.getD k 0=R.sz k))
noncomputable def Sj(hf:Rat):Rat->List Rat->Bool
 |_,[]=>true
 |t,g::gs=>!(decide (hf<t+g) ||decide (t+g<0-hf)) && Sj hf (t+g) gs
noncomputable def Sl(R:aQ)(ps:List Rat)(ws:List Bool)(os:List Nat):List Rat:=os.map λk=>cy R ps k (ws.getD k true)
theorem Ky(R:aQ)(k:Nat):R.asks.getD k ⟨"",0,0,0⟩=ba R k:=by unfold ba;rw[UK]
theorem nL(R:aQ)(k:Nat):Sd R k=rm (ba R k):=by unfold Sd Sb rm;rw[Ky]
theorem Es(R:aQ):∀(ks:List Nat)(g:Rat),g<=Se R ks g/\∀k∈ks,R.sz k<=Se R ks g
 |[],g=>⟨WL,λk h=>by cases h⟩
 | k::ks,g=>by
  obtain⟨h1,h2⟩:=Es R ks (if g<R.sz k then R.sz k else g)
  have e:Se R (k::ks) g=Se R ks (if g<R.sz k then R.sz k else g):=rfl
  rw[e]
  have a:g<=(if g<R.sz k then R.sz k else g)/\R.sz k<=(if g<R.sz k then R.sz k else g):=by
   split
   . rename_i h;exact⟨Rat.le_of_lt h,WL⟩
   . rename_i h;exact⟨WL,Rat.not_lt.mp h⟩
  refine⟨WI a.1 h1,λx hx=>?_⟩;rcases UV.mp hx with rfl|hx
  . exact WI a.2 h1
  . exact h2 x hx
theorem BD(R:aQ)(ks:List Nat):bZ R ks+bZ R ks=Se R ks 0:=by unfold bZ;grind
theorem Kz(R:aQ)(ks:List Nat):0<=bZ R ks:=by have:=(Es R ks 0).1;have:=BD R ks;grind
theorem KA(R:aQ)(ks:List Nat){k:Nat}(h:k∈ks):R.sz k<=bZ R ks+bZ R ks:=by rw[BD];exact(Es R ks 0).2 k h
theorem Et{R:aQ}{ps:List Rat}{hf:Rat}:∀(os:List Nat)(t:Rat)(ws:List Bool),(Sg R ps hf t ws os).length=ws.length
 |[],_,_=>rfl
 | k::os,t,ws=>by show(Sg R ps hf _ (ws.set k _) os).length=_;rw[Et,VP]
theorem Eu{R:aQ}{ps:List Rat}{hf:Rat}:∀(os:List Nat)(t:Rat)(ws:List Bool){j:Nat},j∉os->(Sg R ps hf t ws os).getD j true=ws.getD j true
 |[],_,_,_,_=>rfl
 | k::os,t,ws,j,h=>by show(Sg R ps hf _ (ws.set k _) os).getD j true=_;rw[Eu os _ _ (λz=>h (gV _ z)),UK,Vp (λz=>h (by simp[z])),UK]
theorem KB{R:aQ}{ps:List Rat}{k:Nat}(h0:0<=ps.getD k 0)(h1:ps.getD k 0<=R.sz k):0<=cy R ps k (pO R k)/\cy R ps k (!pO R k)=cy R ps k (pO R k)-R.sz k/\cy R ps k (!pO R k)<=0:=by unfold cy;cases pO R k<;>simp<;>grind
theorem MY{R:aQ}{ps:List Rat}{hf:Rat}:∀(os:List Nat)(t:Rat)(ws:List Bool),os.Nodup->(∀k∈os,k<ws.length/\0<=ps.getD k 0/\ps.getD k 0<=R.sz k/\R.sz k<=hf+hf)->0-hf<=t->t<=hf->Sj hf t (Sl R ps (Sg R ps hf t ws os) os)=true
 |[],_,_,_,_,_,_=>rfl
 | k::os,t,ws,hn,h,t0,t1=>by
  obtain⟨n1,n2⟩:=Vf.mp hn;obtain⟨hk,p0,p1,s1⟩:=h k p4;obtain⟨g0,g1,g2⟩:=KB p0 p1;have ew:(Sg R ps hf t ws (k::os)).getD k true=Sf R ps hf t k:=by show(Sg R ps hf _ (ws.set k _) os).getD k true=_;rw[Eu os _ _ n1,UK,Vo hk];rfl
  have eg:Sl R ps (Sg R ps hf t ws (k::os)) (k::os)=cy R ps k (Sf R ps hf t k)::Sl R ps (Sg R ps hf (t+cy R ps k (Sf R ps hf t k)) (ws.set k (Sf R ps hf t k)) os) os:=by show cy R ps k _::_=_;rw[ew];rfl
  rw[eg]
  have b:0-hf<=t+cy R ps k (Sf R ps hf t k)/\t+cy R ps k (Sf R ps hf t k)<=hf:=by
   unfold Sf;split
   . grind
   . rename_i c;have:=Rat.not_lt.mp c;grind
  show(!(decide (hf<t+cy R ps k (Sf R ps hf t k)) ||decide (t+cy R ps k (Sf R ps hf t k)<0-hf)) && _)=true;rw[UM (Rat.not_lt.mpr b.2),UM (Rat.not_lt.mpr b.1)];exact MY os _ _ n2 (λj hj=>by rw[VP];exact h j (gV _ hj)) b.1 b.2
theorem BE{R:aQ}{qs:List Rat}{os:List Nat}(hc:R6 (R5 R) (R8 R qs)=none)(op:os.Perm (R8 R qs))(ow:os.Pairwise λi j=>Sd R i<=Sd R j) :
  os.Pairwise λi j=>rm (ba R i)<rm (ba R j)/\rm (ba R j)<i9 (ba R i)/\i9 (ba R i)<i9 (ba R j):=by
 have hn:os.Nodup:=op.nodup_iff.mpr ((qS R qs).imp λh=>U7 h);have cr:=wd (qS R qs) hc;have ow2:os.Pairwise λi j=>Sd R i<=Sd R j/\i≠j:=List.Pairwise.and ow hn;refine List.Pairwise.imp_of_mem (λ{i j} hi hj h=>?_) ow2;obtain⟨h1,h2⟩:=h;rw[nL,nL]at h1
 have c:R5 R i j=true∨R5 R j i=true:=by
  rcases Nat.lt_or_gt_of_ne h2 with q|q
  . exact .inl (cr i j (op.mem_iff.mp hi) (op.mem_iff.mp hj) q)
  . exact .inr (cr j i (op.mem_iff.mp hj) (op.mem_iff.mp hi) q)
 unfold R5 ND at c;simp only[WK,UP]at c;omega
theorem Ew{R:aQ}{qs:List Rat}(hS:dG R qs){os:List Nat}(op:os.Perm (R8 R qs))(hf:Rat):(List.range R.asks.length).all (Si R qs (R8 R qs) (Sg R qs hf 0 (Sh R qs) os))=true:=by
 rw[VE];intro k hk;have hk:=Vd.mp hk;have ql:=hS.len;unfold Si;by_cases m:k∈R8 R qs
 . rw[UX m];rfl
 .
  rw[Eu os _ _ λz=>m (op.mem_iff.mp z)];have e:(Sh R qs).getD k true=decide (qs.getD k 0=R.sz k):=by unfold Sh;rw[UK,UU,fI (by rw[VO];omega),WE,iL hk,bM xL];rfl
  rw[e,UX (rfl:decide (qs.getD k 0=R.sz k)=decide (qs.getD k 0=R.sz k)),Bool.or_true]
theorem BF{R:aQ}{qs:List Rat}(hS:dG R qs):(Sh R qs).length=R.asks.length:=by have:=hS.len;unfold Sh;rw[UN,VO];omega
theorem Ex{R:aQ}{qs:List Rat}(hS:dG R qs){os:List Nat}(op:os.Perm (R8 R qs)):Sj (bZ R (R8 R qs)) 0 (Sl R qs (Sg R qs (bZ R (R8 R qs)) 0 (Sh R qs) os) os)=true:=by have hn:os.Nodup:=op.nodup_iff.mpr ((qS R qs).imp λh=>U7 h);have h0:=Kz R (R8 R qs);refine MY os 0 _ hn (λk hk=>?_) (by grind) h0;have hk':=(kO (op.mem_iff.mp hk)).1;have lo:=hS.lo k hk';exact⟨by rw[BF hS,<- hS.len];exact hk',lo.1,lo.2,KA R _ (op.mem_iff.mp hk)⟩
theorem BG{f:Nat->Nat}:∀{as bs:List Nat},as.Pairwise (λi j=>f i<f j)->bs.Pairwise (λi j=>f i<=f j)->as.Perm bs->as=bs
 |[],bs,_,_,p=>(List.Perm.nil_eq p)
 |a::as,[],_,_,p=>absurd p.length_eq x_
 | a::as,b::bs,ha,hb,p=>by
  obtain⟨a1,a2⟩:=Wb.mp ha;obtain⟨b1,b2⟩:=Wb.mp hb
  have e:a=b:=by
   rcases UV.mp (p.mem_iff.mp (p4 (a:=a) (l:=as)))with q|q
   . exact q
   .
    rcases UV.mp (p.mem_iff.mpr (p4 (a:=b) (l:=bs)))with r|r
    . exact r.symm
    . have:=a1 b r;have:=b1 a q;omega
  subst e;rw[BG a2 b2 p.cons_inv]
theorem z9{R:aQ}{qs:List Rat}{os os':List Nat}(hc:R6 (R5 R) (R8 R qs)=none)(op:os.Perm (R8 R qs))(ow:os.Pairwise λi j=>Sd R i<=Sd R j)(op':os'.Perm (R8 R qs))(ow':os'.Pairwise λi j=>Sd R i<=Sd R j):os=os':=by refine BG (f:=Sd R) ((BE hc op ow).imp λh=>?_) ow' (op.trans op'.symm);rw[nL,nL];exact h.1
end My
set_option exponentiation.threshold 5000
namespace My
open PySem L2
noncomputable def Sm(ps:List Rat)(d:D):List Rat:=match rZ d with
 |some s=>R0 ps s
 |none=>ps
noncomputable def qT(R:aQ)(ps:List Rat)(ss:List D):List Rat:=ss.foldl Sm ps
noncomputable def yt(R:aQ):Nat->List Rat->List D->Option Nat
 |_,_,[]=>none
 |i,ps,d::ss=>if R9 R ps d then yt R (i+1) (Sm ps d) ss else some i
theorem Ey{R:aQ}{ps:List Rat}{s:eB}(h:dG R ps)(hk:s.k<ps.length)(hl:s.l<ps.length)(e:Rc R ps s=true):MW R ps s:=by unfold Rc at e;simp only[UQ,Bool.not_eq_true',decide_eq_false_iff_not,UP]at e;obtain⟨e1,_,e3,e4⟩:=e;obtain⟨m1,m2,m3,_⟩:=h.ms hk hl s.kw s.lw;have le:=Rat.not_lt.mp e4;exact⟨hk,hl,e1,Rat.le_of_lt e3,WI le m2,WI le m3⟩
structure Sn (R:aQ) (ps:List Rat) (D:Nat):Prop where
 ok:dG R ps
 d0:0<D
 d1:D<2^1500
 da:∀a∈R.asks,a.size.den∣D
 dp:∀p∈ps,p.den∣D
theorem Sn.slid{R:aQ}{ps:List Rat}{D:Nat}{s:eB}(h:Sn R ps D)(hs:MW R ps s)(dm:s.am.den∣D):Sn R (R0 ps s) D:=by
 have dk:∀k,k<ps.length->(ps.getD k 0).den∣D:=λk hk=>h.dp _ (by rw[bM hk];exact UO hk)
 have db:∀(k:Nat)(w:Bool),k<ps.length->(RZ (ps.getD k 0) w s.am).den∣D:=λk w hk=>by
  unfold RZ;cases w
  . exact tH h.d0 (dk k hk) dm
  . exact qa h.d0 (dk k hk) dm
 have dp':∀p∈R0 ps s,p.den∣D:=λp hp=>by
  obtain⟨i,hi,rfl⟩:=Vu hp;rw[<- bM hi,yq hs.k hs.l hs.kl];rw[kP]at hi;split
  . exact db _ _ hs.k
  .
   split
   . exact db _ _ hs.l
   . exact dk i hi
 refine⟨⟨h.ok.ok,by rw[kP];exact h.ok.len,λi hi=>?_,D,h.d0,h.d1,h.da,dp'⟩,h.d0,h.d1,h.da,dp'⟩;rw[kP]at hi;rw[yq hs.k hs.l hs.kl];split
 . rename_i e;subst e;exact Bv (h.ok.lo _ hs.k).1 (h.ok.lo _ hs.k).2 hs.nn hs.kn
 .
  split
  . rename_i e;subst e;exact Bv (h.ok.lo _ hs.l).1 (h.ok.lo _ hs.l).2 hs.nn hs.ln
  . exact h.ok.lo i hi
theorem BH{R:aQ}{ps:List Rat}(h:dG R ps):∀p∈ps,RB 4000 p:=λp hp=>by obtain⟨i,hi,rfl⟩:=Vu hp;rw[<- bM hi];exact(h.rb hi).mono xp
theorem Ez{R:aQ}{ss:List D}{j:Nat}{qs:List Rat}(h:j<ss.length):yt R j qs (ss.drop j)=if R9 R qs ss[j]then yt R (j+1) (Sm qs ss[j]) (ss.drop (j+1))else some j:=by rw[Vi h];rfl
theorem Ha{ss:List D}{j:Nat}{x:D}(hj:(fh ss)[j]?=some x):∃h:j<ss.length,x=.tup [.int (j:Int),ss[j]]:=by
 have hj':j<ss.length:=by have:=(k5.mp hj).1;simpa[fh]using this
 refine⟨hj',?_⟩;have:(fh ss)[j]?=some (.tup [.int (j:Int),ss[j]]):=by simp[fh,hj']
 rw[this]at hj;exact(U6 hj).symm
theorem Iz{R:aQ}{M:Nat}:∀(ss:List D)(i:Nat)(ps:List Rat),Sn R ps M->(∀u∈ss,∀s,rZ u=some s->RB 4000 s.am/\s.am.den∣M)->yt R i ps ss=none->Sn R (qT R ps ss) M
 |[],_,_,h,_,_=>h
 | d::ss,i,ps,h,ha,hb=>by
  unfold yt at hb
  cases e:R9 R ps d with
  |false=>rw[e]at hb;cases hb
  | true =>
   rw[e,if_pos rfl]at hb;obtain⟨s,es,hk,hl,e'⟩:=Iw e;have es':rZ d=some s:=by rw[es];exact kR s
   have st:Sm ps d=R0 ps s:=by unfold Sm;rw[es']
   show Sn R (qT R (Sm ps d) ss) M;rw[st]at hb ⊢;exact Iz ss (i+1) _ (h.slid (Ey h.ok hk hl e') (ha d p4 s es').2) (λu hu=>ha u (gV _ hu)) hb
theorem ID(R:aQ)(ks:List Nat):∃os:List Nat,os.Perm ks/\os.Pairwise λi j=>Sd R i<=Sd R j:=by refine⟨ks.mergeSort λi j=>decide (Sd R i<=Sd R j),List.mergeSort_perm _ _,?_⟩;have:=List.pairwise_mergeSort (le:=λi j=>decide (Sd R i<=Sd R j)) (λa b c h1 h2=>by simp only[UP]at *;omega) (λa b=>by simp only[WK,UP];omega) ks;exact this.imp λh=>by simpa using h
theorem vm{R:aQ}{qs:List Rat}(hS:dG R qs):(R8 R qs).length<=20/\∀k∈R8 R qs,k<R.asks.length:=by refine⟨?_,λk hk=>by rw[<- hS.len];exact(kO hk).1⟩;unfold R8;refine UT (VJ _ _) ?_;rw[Vc,hS.len];exact hS.ok.few
theorem wk{R:aQ}{D:Nat}:∀(m i:Nat)(qs:List Rat),Sn R qs D->yt R i qs ((kB R m qs).map RW)=none/\qT R qs ((kB R m qs).map RW)=iy R m qs/\Sn R (iy R m qs) D
 |0,_,_,h=>⟨rfl,rfl,h⟩
 | m+1,i,qs,h=>by
  unfold kB iy
  cases e:rn R qs with
  |none=>exact⟨rfl,rfl,h⟩
  | some u =>
   obtain⟨h1,h2,_⟩:=jG h.ok e;have ha:=z8 h.ok e h.d0 h.da h.dp;have st:Sm qs (RW u)=R0 qs u:=by unfold Sm;rw[kR]
   obtain⟨r1,r2,r3⟩:=wk m (i+1) (R0 qs u) (h.slid h1 ha);refine⟨?_,?_,r3⟩
   .
    show(if R9 R qs (RW u)then yt R (i+1) (Sm qs (RW u)) _ else some i)=none
    rw[BB h1.k h1.l,h2,if_pos rfl,st];exact r1
   . show qT R (Sm qs (RW u)) _=_;rw[st];exact r2
theorem EC{R:aQ}{D:Nat}:∀(m:Nat)(qs:List Rat),Sn R qs D->∀s∈kB R m qs,RB 4000 s.am/\s.am.den∣D
 |0,_,_,s,hs=>by cases hs
 | m+1,qs,h,s,hs=>by
  unfold kB at hs
  cases e:rn R qs with
  |none=>rw[e]at hs;cases hs
  | some u =>
   rw[e]at hs;obtain⟨h1,_,_,_,h5,_⟩:=jG h.ok e;have ha:=z8 h.ok e h.d0 h.da h.dp;rcases UV.mp hs with rfl|hs
   . exact⟨h5,ha⟩
   . exact EC m (R0 qs u) (h.slid h1 ha) s hs
theorem yu{R:aQ}{ps:List Rat}(hS:dG R ps):R6 (R5 R) (R8 R (iy R 20 ps))=none:=by refine G6 (BC 20 ps hS ?_);refine UT (VJ _ _) ?_;rw[Vc,hS.len];exact hS.ok.few
theorem IE{R:aQ}{ps:List Rat}(hS:dG R ps):(kB R 20 ps).length<=20:=by refine UT (we 20 ps hS) (UT (VJ _ _) ?_);rw[Vc,hS.len];exact hS.ok.few
theorem MZ{ss:List eB}{M:Nat}(h:∀s∈ss,RB 4000 s.am/\s.am.den∣M):∀u∈ss.map RW,∀s,rZ u=some s->RB 4000 s.am/\s.am.den∣M:=λu hu s es=>by obtain⟨x,hx,rfl⟩:=VA.mp hu;rw[kR]at es;cases es;exact h _ hx
end My
set_option exponentiation.threshold 1000
namespace Hd
open PySem PySem.W PyProof.Rows
noncomputable abbrev pr:Program:=PySem.Challenge.pw_ringloads_k37_roundings_told
noncomputable def top(i:Nat):Stmt:=pr.main.body.getD i (.Pass ⟨0,0,0,0⟩)
noncomputable def Hb(st:Stmt)(j:Nat):Stmt:=match st with
 |.ClassDef _ _ _ b ..=>b.getD j (.Pass ⟨0,0,0,0⟩)
 |_=>.Pass ⟨0,0,0,0⟩
noncomputable def ED(s:Stmt):Str:=match s with
 |.FunctionDef n ..=>n
 |_=>""
noncomputable def M0(s:Stmt):Arguments:=match s with
 |.FunctionDef _ a _ _ _ _ _ _ _ _=>a
 |_=>{posonlyargs:=[],args:=[],vararg:=none,kwonlyargs:=[],kw_defaults:=[],kwarg:=none,defaults:=[] }
noncomputable def Oi(s:Stmt):List Stmt:=match s with
 |.FunctionDef _ _ b _ _ _ _ _ _ _=>b
 |_=>[]
noncomputable def M1(s:Stmt):Scope:=match s with
 |.FunctionDef _ _ _ _ _ _ sc _ _ _=>sc
 |_=>{kind:=.function,names:=[],isGenerator:=false,isCoroutine:=false}
noncomputable def OY(s:Stmt):Pos:=match s with
 |.FunctionDef _ _ _ _ _ _ _ _ _ p=>p
 |_=>⟨0,0,0,0⟩
noncomputable def IF (st:Stmt) (q:Str) (g:Addr) (md cd:Value):FuncData:={ name:=ED st,qualname:=q,params:=M0 st,body:=.stmts (Oi st),scope:=M1 st,globals:=g,closure:=[],defaults:=.none,kwdefaults:=.none,doc:=.none,pyModule:=md,annotations:=none,code:=cd,closureTuple:=.none,builtins:=0 }
noncomputable def kh(P:Params)(x:Str):Int:=PySem.PyData.keyHash P x
noncomputable def M3(vs:List Value):Obj:=⟨.type "tuple",none,.seq vs.toArray 0,#[]⟩
noncomputable def CN(vs:List Value):Obj:=⟨.none,none,.fields vs.toArray,#[]⟩
noncomputable def OZ:Nat->List Str->List Value
 |_,[]=>[]
 |t,x::r=>.str x t::OZ (t+1) r
noncomputable def M4(st:Stmt)(a t:Nat)(v1 v2:Value)(tm u:Nat):Obj:=⟨.type "code",none,.fields #[.str (ED st) t,.str (ED st) (t+1),.str "/claim/cut.py" (t+2),.int (OY st).line 0,.int (M0 st).args.length 0,.int 0 0,.int 0 0,.int 3 0,.ref a,.bool true,.int 181 0,.ref (a+1),.none,v1,v2,.ref tm,.int u 0,.int (OY st).line 0,.str "/claim/cut.py" (u+1)],#[]⟩
noncomputable def So(st:Stmt)(md:Value)(cd:Nat):Obj:=⟨.type "function",none,.func (IF st (ED st) 3 md (.ref cd)),#[]⟩
noncomputable def Sq(st:Stmt):Obj:=⟨.none,none,.func (IF st (ED st) 0 .none .none),#[]⟩
noncomputable def br(st:Stmt)(a t:Nat)(vs:List Str)(md:Value):List Obj:=[M3 [],CN [],M3 (OZ (t+3) vs),M3 [],Sq st,M4 st a t (.ref (a+2)) (.ref (a+3)) (a+4) (t+3+vs.length),So st md (a+5)]
noncomputable def wm(st:Stmt)(a t:Nat)(md:Value):List Obj:=[M3 [],CN [],Sq st,M4 st a t .none .none (a+2) (t+3),So st md (a+3)]
noncomputable def yv (P:Params) (nm:Value) (es:List DictEntry) (n:Nat):Obj:=⟨.type "dict",none,.dict (([⟨kh P "__name__",.str "__name__" 165,nm⟩,⟨kh P "__doc__",.str "__doc__" 166,.none⟩,⟨kh P "__package__",.str "__package__" 167,.none⟩,⟨kh P "__loader__",.str "__loader__" 168,.builtin "__main__.__loader__#opaque"⟩,⟨kh P "__spec__",.str "__spec__" 169,.none⟩,⟨kh P "__annotations__",.str "__annotations__" 170,.ref 6⟩,⟨kh P "__builtins__",.str "__builtins__" 171,.ref 4⟩,⟨kh P "__file__",.str "__file__" 173,.str "/claim/cut.py" 172⟩,⟨kh P "__cached__",.str "__cached__" 174,.none⟩]:List DictEntry)++es).toArray n,#[]⟩
noncomputable def PD:Obj:=⟨.type "code",none,.fields #[.str "<module>" 182,.str "<module>" 183,.str "/claim/cut.py" 184,.int 1 0,.int 0 0,.int 0 0,.int 0 0,.int 0 0,.ref 11,.bool false,.int 181 0,.ref 12,.none,.none,.none,.none,.int 185 0,.int 1 0,.str "/claim/cut.py" 186],#[]⟩
noncomputable def PF:Obj:=⟨.type "frame",none,.plain,#[some (.ref 13),some (.ref 3),some (.ref 3),none,some (.str "__main__" 164),none,some (.ref 0)]⟩
noncomputable def KC(P:Params):List Obj:=[boot_o_0 P,boot_o_1 P,boot_o_2 P,boot_o_3 P,boot_o_4 P,boot_o_5 P,boot_o_6 P,boot_o_7 P,boot_o_8 P,boot_o_9 P,boot_o_10 P,M3 [],CN [],PD,PF]
noncomputable def rA:Life:=⟨[],[],[],0,[],[],false,#[],[],0,false,false,false,0,[2000,10,10],false,0,true,[],[],0,false⟩
noncomputable def Oj(l:List (Nat×Obj))(b:Nat):Option Obj:=@List.rec (Nat×Obj) (λ_=>Option Obj) none (λx _ ih=>bif Nat.beq x.1 b then some x.2 else ih) l
noncomputable def M5(P:Params)(ob:Params->Nat->Obj)(b:Nat):Obj:=bif b.blt 15 then(KC P).getD b default else ob P b
noncomputable def PH(l:List Nat)(b:Nat):Bool:=@List.rec Nat (λ_=>Bool) false (λx _ ih=>@Bool.rec (λ_=>Bool) ih true (Nat.beq x b)) l
noncomputable def Hc(ks:List Nat)(P:Params)(ov:List (Nat×Obj))(ob:Params->Nat->Obj)(b j:Nat):Obj:=@Bool.rec (λ_=>Obj) (M5 P ob b) ((Oj ov b).getD default) (PH ks b)
noncomputable def L0(n:Nat)(f:Nat->Obj)(a b j:Nat):BT:=.nil
noncomputable def L1(n:Nat)(f:Nat->Obj)(a b j:Nat):BT:=@Bool.rec (λ_=>BT) .nil (.node (f b) (L0 n f (2*a) (a+b) j) (L0 n f (2*a) (2*a+b) j)) (b.blt n)
noncomputable def L2(n:Nat)(f:Nat->Obj)(a b j:Nat):BT:=@Bool.rec (λ_=>BT) .nil (.node (f b) (L1 n f (2*a) (a+b) j) (L1 n f (2*a) (2*a+b) j)) (b.blt n)
noncomputable def L3(n:Nat)(f:Nat->Obj)(a b j:Nat):BT:=@Bool.rec (λ_=>BT) .nil (.node (f b) (L2 n f (2*a) (a+b) j) (L2 n f (2*a) (2*a+b) j)) (b.blt n)
noncomputable def L4(n:Nat)(f:Nat->Obj)(a b j:Nat):BT:=@Bool.rec (λ_=>BT) .nil (.node (f b) (L3 n f (2*a) (a+b) j) (L3 n f (2*a) (2*a+b) j)) (b.blt n)
noncomputable def L5(n:Nat)(f:Nat->Obj)(a b j:Nat):BT:=@Bool.rec (λ_=>BT) .nil (.node (f b) (L4 n f (2*a) (a+b) j) (L4 n f (2*a) (2*a+b) j)) (b.blt n)
noncomputable def L6(n:Nat)(f:Nat->Obj)(a b j:Nat):BT:=@Bool.rec (λ_=>BT) .nil (.node (f b) (L5 n f (2*a) (a+b) j) (L5 n f (2*a) (2*a+b) j)) (b.blt n)
noncomputable def L7(n:Nat)(f:Nat->Obj)(a b j:Nat):BT:=@Bool.rec (λ_=>BT) .nil (.node (f b) (L6 n f (2*a) (a+b) j) (L6 n f (2*a) (2*a+b) j)) (b.blt n)
noncomputable def L8(n:Nat)(f:Nat->Obj)(a b j:Nat):BT:=@Bool.rec (λ_=>BT) .nil (.node (f b) (L7 n f (2*a) (a+b) j) (L7 n f (2*a) (2*a+b) j)) (b.blt n)
noncomputable def L9(n:Nat)(f:Nat->Obj)(a b j:Nat):BT:=@Bool.rec (λ_=>BT) .nil (.node (f b) (L8 n f (2*a) (a+b) j) (L8 n f (2*a) (2*a+b) j)) (b.blt n)
noncomputable def Sr(n:Nat)(f:Nat->Obj)(a b j:Nat):BT:=@Bool.rec (λ_=>BT) .nil (.node (f b) (L9 n f (2*a) (a+b) j) (L9 n f (2*a) (2*a+b) j)) (b.blt n)
noncomputable def Ss(n:Nat)(f:Nat->Obj)(a b j:Nat):BT:=@Bool.rec (λ_=>BT) .nil (.node (f b) (Sr n f (2*a) (a+b) j) (Sr n f (2*a) (2*a+b) j)) (b.blt n)
noncomputable def Su(n:Nat)(f:Nat->Obj)(a b j:Nat):BT:=@Bool.rec (λ_=>BT) .nil (.node (f b) (Ss n f (2*a) (a+b) j) (Ss n f (2*a) (2*a+b) j)) (b.blt n)
theorem qU{p:Program}{w:World}{m:Nat}{ann:Option Value}{b n:Nat}{s:SharedT}{t:Thread}{r:Option (Flow×SharedT×Code×Pos)}(h:Fast.tw10110043849684766642 Fast.tw14364793385576792824 p w m ann b n s t=r):segRunT treeTable p w m ann b n s t=r:=by rw[Fast.te10110043849684766642,Wk];exact h
theorem M6{p:Program}{w:World}{m:Nat}{ann:Option Value}{n:Nat}{s:Shared}{t:Thread}{r:Option Shared}(h:Fast.tw14082659384304107361 Fast.tw14364793385576792824 p w m ann n s t=r):topRun treeTable p w m ann n s t=r:=by rw[Fast.te14082659384304107361,Wk];exact h
theorem M7:denote treeTable=Fast.tw11892475500146522536 Fast.tw14364793385576792824:=by rw[<- Fast.te11892475500146522536,<- Wk]
theorem Ol{p:Program}{w:World}{m:Nat}{ann:Option Value}{n:Nat}{s:Shared}{t:Thread}{r:Option (Shared×Thread)}(h:Fast.tw15667345088766844465 Fast.tw14364793385576792824 p w m ann n s t=r):topGo treeTable p w m ann n s t=r:=by rw[Fast.te15667345088766844465,Wk];exact h
theorem KD{b b':List Stmt}(e:b=b'){tb:String->Option Builtin}{p:Program}{w:World}{m:Nat}{ann:Option Value}{n:Nat}{s:Shared}{env:Env}{c:Code}{ps:Pos}{B:List Frame}{r:Option Shared}(h:topRun tb p w m ann n s (restOf b' env c ps B)=r):topRun tb p w m ann n s (restOf b env c ps B)=r:=by rw[e];exact h
noncomputable def f1(P:Params):List Obj:=br (top 1) 15 189 ["one","other","rest"] (.str "ringloads.divisors" 187)
noncomputable def f3(P:Params):List Obj:=[(Obj.mk (.type "tuple") none (.seq #[(.type "ValueError")] 0) #[]),
 (Obj.mk (.type "builtin_function_or_method") none (.fields #[(.builtin "type.__prepare__"),(.type "type")]) #[]),
 (Obj.mk (.type "dict") none (.dict #[(DictEntry.mk (kh P "__module__") (.str "__module__" 207) (.str "ringloads.errors" 198)),(DictEntry.mk (kh P "__qualname__") (.str "__qualname__" 209) (.str "LoadError" 208)),(DictEntry.mk (kh P "__firstlineno__") (.str "__firstlineno__" 211) (.int 9 210)),(DictEntry.mk (kh P "__init__") (.str "__init__" 219) (.ref 35)),(DictEntry.mk (kh P "__static_attributes__") (.str "__static_attributes__" 220) (.ref 36))] 5) #[]),
 (Obj.mk (.type "tuple") none (.seq #[] 0) #[]),
 (Obj.mk .none none (.fields #[(.int 11 0),(.int 4 0),(.ref 34)]) #[]),
 (Obj.mk (.type "code") none (.fields #[(.str "LoadError" 202),(.str "LoadError" 203),(.str "/claim/cut.py" 204),(.int 9 0),(.int 0 0),(.int 0 0),(.int 0 0),(.int 0 0),(.ref 25),(.bool false),(.int 181 0),(.ref 26),.none,.none,.none,.none,(.int 205 0),(.int 9 0),(.str "/claim/cut.py" 206)]) #[]),
 (Obj.mk (.type "frame") none .plain #[(some (.ref 27)),(some (.ref 3)),(some (.ref 24)),none,(some (.str "ringloads.errors" 198)),none,(some (.ref 0))]),
 (Obj.mk (.type "tuple") none (.seq #[] 0) #[]),
 (Obj.mk .none none (.fields #[]) #[]),
 (Obj.mk (.type "tuple") none (.seq #[(.str "self" 215),(.str "text" 216)] 0) #[]),
 (Obj.mk (.type "tuple") none (.seq #[] 0) #[]),
 (Obj.mk .none none (.func (IF (Hb (top 3) 0) "LoadError.__init__" 0 .none .none)) #[]),
 (Obj.mk (.type "code") none (.fields #[(.str "__init__" 212),(.str "LoadError.__init__" 213),(.str "/claim/cut.py" 214),(.int 11 0),(.int 2 0),(.int 0 0),(.int 0 0),(.int 3 0),(.ref 29),(.bool true),(.int 181 0),(.ref 30),.none,(.ref 31),(.ref 32),(.ref 33),(.int 217 0),(.int 11 0),(.str "/claim/cut.py" 218)]) #[]),
 (Obj.mk (.type "function") none (.func (IF (Hb (top 3) 0) "LoadError.__init__" 3 (.str "ringloads.errors" 198) (.ref 34))) #[]),
 (Obj.mk (.type "tuple") none (.seq #[] 0) #[]),
 (Obj.mk (.type "dict") none (.dict #[(DictEntry.mk (kh P "__module__") (.str "__module__" 207) (.str "ringloads.errors" 198)),(DictEntry.mk (kh P "__firstlineno__") (.str "__firstlineno__" 211) (.int 9 210)),(DictEntry.mk (kh P "__init__") (.str "__init__" 219) (.ref 35)),(DictEntry.mk (kh P "__static_attributes__") (.str "__static_attributes__" 220) (.ref 36)),(DictEntry.mk (kh P "__weakref__") (.str "__weakref__" 222) (.ref 39)),(DictEntry.mk (kh P "__doc__") (.str "__doc__" 223) .none)] 3) #[]),
 (Obj.mk (.type "type") none (.cls (PySem.ClassData.mk "LoadError" [(.type "ValueError")] [(.ref 38),(.type "ValueError"),(.type "Exception"),(.type "BaseException"),(.type "object")] 37 "LoadError" true [] [(.ref 58)] false none false)) #[(some (.ref 22)),none,(some (.str "LoadError" 200)),(some (.str "LoadError" 208)),(some (.builtin "ValueError.__new__")),(some (.bool true))]),
 (Obj.mk (.type "getset_descriptor") none (.fields #[(.str "__weakref__" 221),(.ref 38),(.builtin "ExceptionGroup.__weakref__"),.none]) #[]),
 (Obj.mk (.type "super") none (.fields #[(.ref 38),(.ref 38),(.ref 38)]) #[]),
 (Obj.mk (.type "builtin_function_or_method") none (.fields #[(.builtin "object.__init_subclass__"),(.ref 38)]) #[])]
noncomputable def f4(P:Params):List Obj:=[(Obj.mk (.type "tuple") none (.seq #[(.ref 38)] 0) #[]),
 (Obj.mk (.type "builtin_function_or_method") none (.fields #[(.builtin "type.__prepare__"),(.type "type")]) #[]),
 (Obj.mk (.type "dict") none (.dict #[(DictEntry.mk (kh P "__module__") (.str "__module__" 233) (.str "ringloads.errors" 198)),(DictEntry.mk (kh P "__qualname__") (.str "__qualname__" 235) (.str "NoSlide" 234)),(DictEntry.mk (kh P "__firstlineno__") (.str "__firstlineno__" 237) (.int 13 236)),(DictEntry.mk (kh P "__init__") (.str "__init__" 245) (.ref 55)),(DictEntry.mk (kh P "__static_attributes__") (.str "__static_attributes__" 247) (.ref 56))] 5) #[]),
 (Obj.mk (.type "tuple") none (.seq #[] 0) #[]),
 (Obj.mk .none none (.fields #[(.int 15 0),(.int 4 0),(.ref 54)]) #[]),
 (Obj.mk (.type "code") none (.fields #[(.str "NoSlide" 228),(.str "NoSlide" 229),(.str "/claim/cut.py" 230),(.int 13 0),(.int 0 0),(.int 0 0),(.int 0 0),(.int 0 0),(.ref 45),(.bool false),(.int 181 0),(.ref 46),.none,.none,.none,.none,(.int 231 0),(.int 13 0),(.str "/claim/cut.py" 232)]) #[]),
 (Obj.mk (.type "frame") none .plain #[(some (.ref 47)),(some (.ref 3)),(some (.ref 44)),none,(some (.str "ringloads.errors" 198)),none,(some (.ref 0))]),
 (Obj.mk (.type "tuple") none (.seq #[] 0) #[]),
 (Obj.mk .none none (.fields #[]) #[]),
 (Obj.mk (.type "tuple") none (.seq #[(.str "self" 241),(.str "number" 242)] 0) #[]),
 (Obj.mk (.type "tuple") none (.seq #[] 0) #[]),
 (Obj.mk .none none (.func (IF (Hb (top 4) 0) "NoSlide.__init__" 0 .none .none)) #[]),
 (Obj.mk (.type "code") none (.fields #[(.str "__init__" 238),(.str "NoSlide.__init__" 239),(.str "/claim/cut.py" 240),(.int 15 0),(.int 2 0),(.int 0 0),(.int 0 0),(.int 3 0),(.ref 49),(.bool true),(.int 181 0),(.ref 50),.none,(.ref 51),(.ref 52),(.ref 53),(.int 243 0),(.int 15 0),(.str "/claim/cut.py" 244)]) #[]),
 (Obj.mk (.type "function") none (.func (IF (Hb (top 4) 0) "NoSlide.__init__" 3 (.str "ringloads.errors" 198) (.ref 54))) #[]),
 (Obj.mk (.type "tuple") none (.seq #[(.str "number" 246)] 0) #[]),
 (Obj.mk (.type "dict") none (.dict #[(DictEntry.mk (kh P "__module__") (.str "__module__" 233) (.str "ringloads.errors" 198)),(DictEntry.mk (kh P "__firstlineno__") (.str "__firstlineno__" 237) (.int 13 236)),(DictEntry.mk (kh P "__init__") (.str "__init__" 245) (.ref 55)),(DictEntry.mk (kh P "__static_attributes__") (.str "__static_attributes__" 247) (.ref 56)),(DictEntry.mk (kh P "__doc__") (.str "__doc__" 248) .none)] 2) #[]),
 (Obj.mk (.type "type") none (.cls (PySem.ClassData.mk "NoSlide" [(.ref 38)] [(.ref 58),(.ref 38),(.type "ValueError"),(.type "Exception"),(.type "BaseException"),(.type "object")] 57 "NoSlide" true [] [] false none false)) #[(some (.ref 42)),none,(some (.str "NoSlide" 226)),(some (.str "NoSlide" 234)),(some (.builtin "ValueError.__new__")),(some (.bool true))]),
 (Obj.mk (.type "super") none (.fields #[(.ref 58),(.ref 58),(.ref 58)]) #[]),
 (Obj.mk (.type "builtin_function_or_method") none (.fields #[(.builtin "object.__init_subclass__"),(.ref 58)]) #[])]
noncomputable def f6(P:Params):List Obj:=br (top 6) 61 253 ["thing"] (.str "ringloads.names" 251)
noncomputable def f7(P:Params):List Obj:=br (top 7) 68 260 ["thing","many"] (.str "ringloads.names" 251)
noncomputable def f8(P:Params):List Obj:=br (top 8) 75 268 ["thing"] (.str "ringloads.names" 251)
noncomputable def f9(P:Params):List Obj:=br (top 9) 82 275 ["thing"] (.str "ringloads.names" 251)
noncomputable def Sv(P:Params):List Obj:=[(Obj.mk (.type "tuple") none (.seq #[(.int 0 284),(.int 1 285)] 0) #[])]
noncomputable def Sw(P:Params):List Obj:=br (top 12) 90 287 ["top","bottom","shared"] (.str "ringloads.ratios" 282)
noncomputable def Sx(P:Params):List Obj:=br (top 13) 97 296 ["one","other"] (.str "ringloads.ratios" 282)
noncomputable def Sy(P:Params):List Obj:=br (top 14) 104 304 ["one","other"] (.str "ringloads.ratios" 282)
noncomputable def Sz(P:Params):List Obj:=br (top 15) 111 312 ["one","other"] (.str "ringloads.ratios" 282)
noncomputable def SA(P:Params):List Obj:=br (top 16) 118 320 ["one","other"] (.str "ringloads.ratios" 282)
noncomputable def SB(P:Params):List Obj:=br (top 17) 125 328 ["one","other"] (.str "ringloads.ratios" 282)
noncomputable def SC(P:Params):List Obj:=br (top 18) 132 336 ["one","other"] (.str "ringloads.ratios" 282)
noncomputable def SD(P:Params):List Obj:=br (top 20) 139 346 ["ring","k"] (.str "ringloads.crossing" 344)
noncomputable def SE(P:Params):List Obj:=br (top 21) 146 354 ["ring","k"] (.str "ringloads.crossing" 344)
noncomputable def SF(P:Params):List Obj:=br (top 22) 153 362 ["ring","k","l","low","high","first","last"] (.str "ringloads.crossing" 344)
noncomputable def SG(P:Params):List Obj:=wm (top 23) 160 375 (.str "ringloads.crossing" 344)
noncomputable def SH(P:Params):List Obj:=br (top 24) 165 381 ["ring","some","number","k","l"] (.str "ringloads.crossing" 344)
noncomputable def SI(P:Params):List Obj:=br (top 28) 172 398 ["thing"] (.str "ringloads.ways" 392)
noncomputable def SJ(P:Params):List Obj:=br (top 29) 179 405 ["way"] (.str "ringloads.ways" 392)
noncomputable def SK(P:Params):List Obj:=wm (top 30) 186 412 (.str "ringloads.ways" 392)
noncomputable def SL(P:Params):List Obj:=wm (top 32) 191 420 (.str "ringloads.sendings" 418)
noncomputable def SN(P:Params):List Obj:=br (top 34) 196 428 ["ring","sending","thing","slid","number","slide"] (.str "ringloads.slides" 426)
noncomputable def SO(P:Params):List Obj:=br (top 35) 203 440 ["ring","sending","thing"] (.str "ringloads.slides" 426)
noncomputable def SQ(P:Params):List Obj:=br (top 36) 210 449 ["thing","asks"] (.str "ringloads.slides" 426)
noncomputable def SR(P:Params):List Obj:=wm (top 37) 217 457 (.str "ringloads.slides" 426)
noncomputable def SS(P:Params):List Obj:=br (top 38) 222 463 ["ring","sending","k","way"] (.str "ringloads.slides" 426)
noncomputable def SU(P:Params):List Obj:=br (top 39) 229 473 ["ring","sending","slide"] (.str "ringloads.slides" 426)
noncomputable def SV(P:Params):List Obj:=br (top 40) 236 482 ["sending","slide","slid"] (.str "ringloads.slides" 426)
noncomputable def SW(P:Params):List Obj:=br (top 41) 243 491 ["part","way","amount"] (.str "ringloads.slides" 426)
noncomputable def SX(P:Params):List Obj:=br (top 42) 250 500 ["ring","sending","slid","slides","pair","slide"] (.str "ringloads.slides" 426)
noncomputable def SY(P:Params):List Obj:=br (top 43) 257 512 ["ring","sending","k","l","ways","slide"] (.str "ringloads.slides" 426)
noncomputable def SZ(P:Params):List Obj:=br (top 44) 264 524 ["ring","k","l","ways"] (.str "ringloads.slides" 426)
noncomputable def S9(P:Params):List Obj:=[(Obj.mk (.type "tuple") none (.seq #[(.int 1 536),(.int 2 537)] 0) #[])]
noncomputable def Ta(P:Params):List Obj:=br (top 47) 272 539 ["ring","sending","thing","slid","parted"] (.str "ringloads.rounding" 534)
noncomputable def Tb(P:Params):List Obj:=br (top 48) 279 550 ["ring","slid","parted","ways","k","ask"] (.str "ringloads.rounding" 534)
noncomputable def Tc(P:Params):List Obj:=br (top 49) 286 562 ["ask","part"] (.str "ringloads.rounding" 534)
noncomputable def Td(P:Params):List Obj:=br (top 50) 293 570 ["ring","slid","parted","ways","half","whole","k"] (.str "ringloads.rounding" 534)
noncomputable def Te(P:Params):List Obj:=br (top 51) 300 583 ["ring","some","greatest","k"] (.str "ringloads.rounding" 534)
noncomputable def Tf(P:Params):List Obj:=[(Obj.mk (.type "tuple") none (.seq #[] 0) #[]),
 (Obj.mk .none none (.fields #[]) #[]),
 (Obj.mk (.type "tuple") none (.seq #[(.str "ring" 596),(.str "some" 597)] 0) #[]),
 (Obj.mk (.type "tuple") none (.seq #[(.str "ring" 598)] 0) #[]),
 (Obj.mk .none none (.func (IF (top 52) "by_lesser_place" 0 .none .none)) #[]),
 (Obj.mk (.type "code") none (.fields #[(.str "by_lesser_place" 593),(.str "by_lesser_place" 594),(.str "/claim/cut.py" 595),(.int 172 0),(.int 2 0),(.int 0 0),(.int 0 0),(.int 3 0),(.ref 307),(.bool true),(.int 181 0),(.ref 308),.none,(.ref 309),(.ref 310),(.ref 311),(.int 599 0),(.int 172 0),(.str "/claim/cut.py" 600)]) #[]),
 (Obj.mk (.type "function") none (.func (IF (top 52) "by_lesser_place" 3 (.str "ringloads.rounding" 534) (.ref 312))) #[])]
noncomputable def Th(P:Params):List Obj:=br (top 53) 314 602 ["ring","k"] (.str "ringloads.rounding" 534)
noncomputable def Ti(P:Params):List Obj:=br (top 54) 321 610 ["ring","sending","k","way","size","rising"] (.str "ringloads.rounding" 534)
noncomputable def Tj(P:Params):List Obj:=br (top 55) 328 622 ["ring","sending","slides"] (.str "ringloads.rounding" 534)
noncomputable def Tn(P:Params):List Obj:=wm (top 56) 335 631 (.str "ringloads.rounding" 534)
noncomputable def To(P:Params):List Obj:=br (top 58) 340 639 ["_law_script","_law_k","_law_cell"] (.str "law_ringloads_k37_roundings_told" 637)
noncomputable def Tp(P:Params):List Obj:=br (top 59) 347 648 ["_law_state","_law_many","_law_digit","_law_drawn","_law_turn"] (.str "law_ringloads_k37_roundings_told" 637)
noncomputable def Tq(P:Params):List Obj:=br (top 60) 354 659 ["_law_top","_law_bottom","_law_one","_law_share"] (.str "law_ringloads_k37_roundings_told" 637)
noncomputable def Tr(P:Params):List Obj:=br (top 61) 361 669 ["_law_state","_law_least","_law_kind","_law_bottom","_law_top"] (.str "law_ringloads_k37_roundings_told" 637)
noncomputable def Ts(P:Params):List Obj:=wm (top 62) 368 680 (.str "law_ringloads_k37_roundings_told" 637)
noncomputable def Tt(P:Params):List Obj:=br (top 63) 373 686 ["_law_state","_law_ties_here","_law_kind","_law_alike","_law_one","_law_rooms_here","_law_more"] (.str "law_ringloads_k37_roundings_told" 637)
noncomputable def Tu(P:Params):List Obj:=br (top 64) 380 699 ["_law_state","_law_shape","_law_places","_law_k","_law_one","_law_other"] (.str "law_ringloads_k37_roundings_told" 637)
noncomputable def Tv(P:Params):List Obj:=br (top 65) 387 711 ["_law_script","_law_at","_law_most","_law_count","_law_state","_law_places","_law_many","_law_kinds","_law_shape","_law_names_here","_law_rooms_here","_law_asks","_law_k","_law_one","_law_other"] (.str "law_ringloads_k37_roundings_told" 637)
noncomputable def Tz(P:Params):List Obj:=br (top 66) 394 732 ["_law_state","_law_ring_here","_law_parts_here","_law_name","_law_one","_law_other","_law_size","_law_way","_law_share"] (.str "law_ringloads_k37_roundings_told" 637)
noncomputable def TB(P:Params):List Obj:=br (top 67) 401 747 ["_law_one","_law_other"] (.str "law_ringloads_k37_roundings_told" 637)
noncomputable def TC(P:Params):List Obj:=br (top 68) 408 755 ["_law_one","_law_other"] (.str "law_ringloads_k37_roundings_told" 637)
noncomputable def TF(P:Params):List Obj:=br (top 69) 415 763 ["_law_one","_law_other"] (.str "law_ringloads_k37_roundings_told" 637)
noncomputable def TH(P:Params):List Obj:=br (top 70) 422 771 ["_law_ring_here","_law_k","_law_way","_law_name","_law_one","_law_other","_law_size","_law_ties_here"] (.str "law_ringloads_k37_roundings_told" 637)
noncomputable def TJ(P:Params):List Obj:=wm (top 71) 429 785 (.str "law_ringloads_k37_roundings_told" 637)
noncomputable def TK(P:Params):List Obj:=br (top 72) 434 791 ["_law_ring_here","_law_sending","_law_found","_law_k","_law_part"] (.str "law_ringloads_k37_roundings_told" 637)
noncomputable def TL(P:Params):List Obj:=br (top 73) 441 802 ["_law_thing","_law_part"] (.str "law_ringloads_k37_roundings_told" 637)
noncomputable def TM(P:Params):List Obj:=br (top 74) 448 810 ["_law_ring_here","_law_sending","_law_k","_law_way"] (.str "law_ringloads_k37_roundings_told" 637)
noncomputable def TN(P:Params):List Obj:=wm (top 75) 455 820 (.str "law_ringloads_k37_roundings_told" 637)
noncomputable def TQ(P:Params):List Obj:=br (top 76) 460 826 ["_law_sending","_law_slide","_law_k","_law_way","_law_l","_law_other","_law_amount_here","_law_made","_law_one","_law_word"] (.str "law_ringloads_k37_roundings_told" 637)
noncomputable def TR(P:Params):List Obj:=br (top 77) 467 842 ["_law_ring_here","_law_sending","_law_thing","_law_here","_law_one"] (.str "law_ringloads_k37_roundings_told" 637)
noncomputable def TU(P:Params):List Obj:=br (top 78) 474 853 ["_law_ring_here","_law_behind_here","_law_ways","_law_parted_here","_law_most","_law_rows","_law_k","_law_l","_law_name","_law_one","_law_other","_law_size","_law_rising","_law_gone_here","_law_whole","_law_gain","_law_total","_law_place"] (.str "law_ringloads_k37_roundings_told" 637)
noncomputable def TV(P:Params):List Obj:=br (top 79) 481 877 ["_law_ring_here","_law_behind_here","_law_ways","_law_way","_law_parted_here","_law_k","_law_gone_here"] (.str "law_ringloads_k37_roundings_told" 637)
noncomputable def TX(P:Params):List Obj:=br (top 80) 488 890 ["_law_ring_here","_law_sending","_law_told","_law_behind_here","_law_held"] (.str "law_ringloads_k37_roundings_told" 637)
noncomputable def TY(P:Params):List Obj:=wm (top 81) 495 901 (.str "law_ringloads_k37_roundings_told" 637)
noncomputable def Om(P:Params)(b:Nat):Obj:=(bif b.blt 68 then(bif b.blt 42 then(bif b.blt 22 then(f1 P).getD (b-15) default else(f3 P).getD (b-22) default)else(bif b.blt 61 then(f4 P).getD (b-42) default else(f6 P).getD (b-61) default))else(bif b.blt 82 then(bif b.blt 75 then(f7 P).getD (b-68) default else(f8 P).getD (b-75) default)else(bif b.blt 89 then(f9 P).getD (b-82) default else(Sv P).getD (b-89) default)))
noncomputable def On(P:Params)(b:Nat):Obj:=(bif b.blt 118 then(bif b.blt 104 then(bif b.blt 97 then(Sw P).getD (b-90) default else(Sx P).getD (b-97) default)else(bif b.blt 111 then(Sy P).getD (b-104) default else(Sz P).getD (b-111) default))else(bif b.blt 132 then(bif b.blt 125 then(SA P).getD (b-118) default else(SB P).getD (b-125) default)else(bif b.blt 139 then(SC P).getD (b-132) default else(bif b.blt 146 then(SD P).getD (b-139) default else(SE P).getD (b-146) default))))
noncomputable def PJ(P:Params)(b:Nat):Obj:=bif b.blt 90 then Om P b else On P b
noncomputable def Oo(P:Params)(b:Nat):Obj:=(bif b.blt 179 then(bif b.blt 165 then(bif b.blt 160 then(SF P).getD (b-153) default else(SG P).getD (b-160) default)else(bif b.blt 172 then(SH P).getD (b-165) default else(SI P).getD (b-172) default))else(bif b.blt 191 then(bif b.blt 186 then(SJ P).getD (b-179) default else(SK P).getD (b-186) default)else(bif b.blt 196 then(SL P).getD (b-191) default else(bif b.blt 203 then(SN P).getD (b-196) default else(SO P).getD (b-203) default))))
noncomputable def Oq(P:Params)(b:Nat):Obj:=(bif b.blt 236 then(bif b.blt 222 then(bif b.blt 217 then(SQ P).getD (b-210) default else(SR P).getD (b-217) default)else(bif b.blt 229 then(SS P).getD (b-222) default else(SU P).getD (b-229) default))else(bif b.blt 250 then(bif b.blt 243 then(SV P).getD (b-236) default else(SW P).getD (b-243) default)else(bif b.blt 257 then(SX P).getD (b-250) default else(bif b.blt 264 then(SY P).getD (b-257) default else(SZ P).getD (b-264) default))))
noncomputable def PN(P:Params)(b:Nat):Obj:=bif b.blt 210 then Oo P b else Oq P b
noncomputable def TZ(P:Params)(b:Nat):Obj:=bif b.blt 153 then PJ P b else PN P b
noncomputable def Os(P:Params)(b:Nat):Obj:=(bif b.blt 293 then(bif b.blt 279 then(bif b.blt 272 then(S9 P).getD (b-271) default else(Ta P).getD (b-272) default)else(bif b.blt 286 then(Tb P).getD (b-279) default else(Tc P).getD (b-286) default))else(bif b.blt 307 then(bif b.blt 300 then(Td P).getD (b-293) default else(Te P).getD (b-300) default)else(bif b.blt 314 then(Tf P).getD (b-307) default else(Th P).getD (b-314) default)))
noncomputable def Ot(P:Params)(b:Nat):Obj:=(bif b.blt 347 then(bif b.blt 335 then(bif b.blt 328 then(Ti P).getD (b-321) default else(Tj P).getD (b-328) default)else(bif b.blt 340 then(Tn P).getD (b-335) default else(To P).getD (b-340) default))else(bif b.blt 361 then(bif b.blt 354 then(Tp P).getD (b-347) default else(Tq P).getD (b-354) default)else(bif b.blt 368 then(Tr P).getD (b-361) default else(bif b.blt 373 then(Ts P).getD (b-368) default else(Tt P).getD (b-373) default))))
noncomputable def PP(P:Params)(b:Nat):Obj:=bif b.blt 321 then Os P b else Ot P b
noncomputable def Ou(P:Params)(b:Nat):Obj:=(bif b.blt 408 then(bif b.blt 394 then(bif b.blt 387 then(Tu P).getD (b-380) default else(Tv P).getD (b-387) default)else(bif b.blt 401 then(Tz P).getD (b-394) default else(TB P).getD (b-401) default))else(bif b.blt 422 then(bif b.blt 415 then(TC P).getD (b-408) default else(TF P).getD (b-415) default)else(bif b.blt 429 then(TH P).getD (b-422) default else(bif b.blt 434 then(TJ P).getD (b-429) default else(TK P).getD (b-434) default))))
noncomputable def Ov(P:Params)(b:Nat):Obj:=(bif b.blt 467 then(bif b.blt 455 then(bif b.blt 448 then(TL P).getD (b-441) default else(TM P).getD (b-448) default)else(bif b.blt 460 then(TN P).getD (b-455) default else(TQ P).getD (b-460) default))else(bif b.blt 481 then(bif b.blt 474 then(TR P).getD (b-467) default else(TU P).getD (b-474) default)else(bif b.blt 488 then(TV P).getD (b-481) default else(bif b.blt 495 then(TX P).getD (b-488) default else(TY P).getD (b-495) default))))
noncomputable def PQ(P:Params)(b:Nat):Obj:=bif b.blt 441 then Ou P b else Ov P b
noncomputable def T9(P:Params)(b:Nat):Obj:=bif b.blt 380 then PP P b else PQ P b
noncomputable def ob(P:Params)(b:Nat):Obj:=bif b.blt 271 then TZ P b else T9 P b
noncomputable def IG(P:Params):List DictEntry:=[(DictEntry.mk (kh P "greatest_shared") (.str "greatest_shared" 197) (.ref 21)),
 (DictEntry.mk (kh P "LoadError") (.str "LoadError" 225) (.ref 38)),
 (DictEntry.mk (kh P "NoSlide") (.str "NoSlide" 250) (.ref 58)),
 (DictEntry.mk (kh P "is_whole") (.str "is_whole" 259) (.ref 67)),
 (DictEntry.mk (kh P "is_number_below") (.str "is_number_below" 267) (.ref 74)),
 (DictEntry.mk (kh P "are_two_wholes") (.str "are_two_wholes" 274) (.ref 81)),
 (DictEntry.mk (kh P "is_ratio") (.str "is_ratio" 281) (.ref 88)),
 (DictEntry.mk (kh P "NOUGHT") (.str "NOUGHT" 286) (.ref 89)),
 (DictEntry.mk (kh P "lowest") (.str "lowest" 295) (.ref 96)),
 (DictEntry.mk (kh P "plus") (.str "plus" 303) (.ref 103)),
 (DictEntry.mk (kh P "minus") (.str "minus" 311) (.ref 110)),
 (DictEntry.mk (kh P "times") (.str "times" 319) (.ref 117)),
 (DictEntry.mk (kh P "under") (.str "under" 327) (.ref 124)),
 (DictEntry.mk (kh P "greater") (.str "greater" 335) (.ref 131)),
 (DictEntry.mk (kh P "lesser") (.str "lesser" 343) (.ref 138)),
 (DictEntry.mk (kh P "lesser_place") (.str "lesser_place" 353) (.ref 145)),
 (DictEntry.mk (kh P "greater_place") (.str "greater_place" 361) (.ref 152)),
 (DictEntry.mk (kh P "do_cross") (.str "do_cross" 374) (.ref 159)),
 (DictEntry.mk (kh P "parted_in") (.str "parted_in" 380) (.ref 164)),
 (DictEntry.mk (kh P "first_side_by_side") (.str "first_side_by_side" 391) (.ref 171)),
 (DictEntry.mk (kh P "ON") (.str "ON" 395) (.str "on" 394)),
 (DictEntry.mk (kh P "BACK") (.str "BACK" 397) (.str "back" 396)),
 (DictEntry.mk (kh P "is_way") (.str "is_way" 404) (.ref 178)),
 (DictEntry.mk (kh P "other_way") (.str "other_way" 411) (.ref 185)),
 (DictEntry.mk (kh P "ties_of") (.str "ties_of" 417) (.ref 190)),
 (DictEntry.mk (kh P "are_ways") (.str "are_ways" 425) (.ref 195)),
 (DictEntry.mk (kh P "slid_by") (.str "slid_by" 439) (.ref 202)),
 (DictEntry.mk (kh P "is_slide") (.str "is_slide" 448) (.ref 209)),
 (DictEntry.mk (kh P "has_form_of_slide") (.str "has_form_of_slide" 456) (.ref 216)),
 (DictEntry.mk (kh P "share_no_tie") (.str "share_no_tie" 462) (.ref 221)),
 (DictEntry.mk (kh P "not_sent") (.str "not_sent" 472) (.ref 228)),
 (DictEntry.mk (kh P "most_slid") (.str "most_slid" 481) (.ref 235)),
 (DictEntry.mk (kh P "slid_once") (.str "slid_once" 490) (.ref 242)),
 (DictEntry.mk (kh P "part_behind") (.str "part_behind" 499) (.ref 249)),
 (DictEntry.mk (kh P "slides_for") (.str "slides_for" 511) (.ref 256)),
 (DictEntry.mk (kh P "greatest_slide") (.str "greatest_slide" 523) (.ref 263)),
 (DictEntry.mk (kh P "ways_apart") (.str "ways_apart" 533) (.ref 270)),
 (DictEntry.mk (kh P "HALF") (.str "HALF" 538) (.ref 271)),
 (DictEntry.mk (kh P "lets_rounding") (.str "lets_rounding" 549) (.ref 278)),
 (DictEntry.mk (kh P "keeps_whole_asks") (.str "keeps_whole_asks" 561) (.ref 285)),
 (DictEntry.mk (kh P "nearest_way") (.str "nearest_way" 569) (.ref 292)),
 (DictEntry.mk (kh P "keeps_within") (.str "keeps_within" 582) (.ref 299)),
 (DictEntry.mk (kh P "half_of_greatest") (.str "half_of_greatest" 592) (.ref 306)),
 (DictEntry.mk (kh P "by_lesser_place") (.str "by_lesser_place" 601) (.ref 313)),
 (DictEntry.mk (kh P "rising_way") (.str "rising_way" 609) (.ref 320)),
 (DictEntry.mk (kh P "gain_of") (.str "gain_of" 621) (.ref 327)),
 (DictEntry.mk (kh P "rounding_of") (.str "rounding_of" 630) (.ref 334)),
 (DictEntry.mk (kh P "rounded_ways") (.str "rounded_ways" 636) (.ref 339)),
 (DictEntry.mk (kh P "_law_begun") (.str "_law_begun" 647) (.ref 346)),
 (DictEntry.mk (kh P "_law_take") (.str "_law_take" 658) (.ref 353)),
 (DictEntry.mk (kh P "_law_low") (.str "_law_low" 668) (.ref 360)),
 (DictEntry.mk (kh P "_law_amount") (.str "_law_amount" 679) (.ref 367)),
 (DictEntry.mk (kh P "_law_names") (.str "_law_names" 685) (.ref 372)),
 (DictEntry.mk (kh P "_law_rooms") (.str "_law_rooms" 698) (.ref 379)),
 (DictEntry.mk (kh P "_law_ends") (.str "_law_ends" 710) (.ref 386)),
 (DictEntry.mk (kh P "_law_ring") (.str "_law_ring" 731) (.ref 393)),
 (DictEntry.mk (kh P "_law_parts") (.str "_law_parts" 746) (.ref 400)),
 (DictEntry.mk (kh P "_law_plus") (.str "_law_plus" 754) (.ref 407)),
 (DictEntry.mk (kh P "_law_minus") (.str "_law_minus" 762) (.ref 414)),
 (DictEntry.mk (kh P "_law_under") (.str "_law_under" 770) (.ref 421)),
 (DictEntry.mk (kh P "_law_ties") (.str "_law_ties" 784) (.ref 428)),
 (DictEntry.mk (kh P "_law_cross") (.str "_law_cross" 790) (.ref 433)),
 (DictEntry.mk (kh P "_law_parted") (.str "_law_parted" 801) (.ref 440)),
 (DictEntry.mk (kh P "_law_is_ratio") (.str "_law_is_ratio" 809) (.ref 447)),
 (DictEntry.mk (kh P "_law_gone") (.str "_law_gone" 819) (.ref 454)),
 (DictEntry.mk (kh P "_law_is_slide") (.str "_law_is_slide" 825) (.ref 459)),
 (DictEntry.mk (kh P "_law_slid") (.str "_law_slid" 841) (.ref 466)),
 (DictEntry.mk (kh P "_law_behind") (.str "_law_behind" 852) (.ref 473)),
 (DictEntry.mk (kh P "_law_crossed_sums") (.str "_law_crossed_sums" 876) (.ref 480)),
 (DictEntry.mk (kh P "_law_rounds") (.str "_law_rounds" 889) (.ref 487)),
 (DictEntry.mk (kh P "_law_right") (.str "_law_right" 900) (.ref 494)),
 (DictEntry.mk (kh P "law") (.str "law" 906) (.ref 499))]
noncomputable def Ua:List Value:=[(.int 2 0),(.int 0 0),(.ref 20),(.int 9 0),(.int 0 0),(.ref 27),(.int 13 0),(.int 0 0),(.ref 47),(.int 19 0),(.int 0 0),(.ref 66),(.int 21 0),(.int 0 0),(.ref 73),(.int 23 0),(.int 0 0),(.ref 80),(.int 25 0),(.int 0 0),(.ref 87),(.int 29 0),(.int 0 0),(.ref 95),(.int 34 0),(.int 0 0),(.ref 102),(.int 36 0),(.int 0 0),(.ref 109),(.int 38 0),(.int 0 0),(.ref 116),(.int 40 0),(.int 0 0),(.ref 123),(.int 42 0),(.int 0 0),(.ref 130),(.int 44 0),(.int 0 0),(.ref 137),(.int 47 0),(.int 0 0),(.ref 144),(.int 49 0),(.int 0 0),(.ref 151),(.int 51 0),(.int 0 0),(.ref 158),(.int 57 0),(.int 0 0),(.ref 163),(.int 59 0),(.int 0 0),(.ref 170),(.int 68 0),(.int 0 0),(.ref 177),(.int 70 0),(.int 0 0),(.ref 184),(.int 72 0),(.int 0 0),(.ref 189),(.int 80 0),(.int 0 0),(.ref 194),(.int 85 0),(.int 0 0),(.ref 201),(.int 94 0),(.int 0 0),(.ref 208),(.int 100 0),(.int 0 0),(.ref 215),(.int 106 0),(.int 0 0),(.ref 220),(.int 109 0),(.int 0 0),(.ref 227),(.int 111 0),(.int 0 0),(.ref 234),(.int 113 0),(.int 0 0),(.ref 241),(.int 118 0),(.int 0 0),(.ref 248),(.int 120 0),(.int 0 0),(.ref 255),(.int 130 0),(.int 0 0),(.ref 262),(.int 134 0),(.int 0 0),(.ref 269),(.int 141 0),(.int 0 0),(.ref 277),(.int 152 0),(.int 0 0),(.ref 284),(.int 157 0),(.int 0 0),(.ref 291),(.int 159 0),(.int 0 0),(.ref 298),(.int 167 0),(.int 0 0),(.ref 305),(.int 172 0),(.int 0 0),(.ref 312),(.int 174 0),(.int 0 0),(.ref 319),(.int 176 0),(.int 0 0),(.ref 326),(.int 180 0),(.int 0 0),(.ref 333),(.int 183 0),(.int 0 0),(.ref 338),(.int 195 0),(.int 0 0),(.ref 345),(.int 200 0),(.int 0 0),(.ref 352),(.int 211 0),(.int 0 0),(.ref 359),(.int 219 0),(.int 0 0),(.ref 366),(.int 223 0),(.int 0 0),(.ref 371),(.int 229 0),(.int 0 0),(.ref 378),(.int 239 0),(.int 0 0),(.ref 385),(.int 249 0),(.int 0 0),(.ref 392),(.int 263 0),(.int 0 0),(.ref 399),(.int 270 0),(.int 0 0),(.ref 406),(.int 272 0),(.int 0 0),(.ref 413),(.int 274 0),(.int 0 0),(.ref 420),(.int 276 0),(.int 0 0),(.ref 427),(.int 285 0),(.int 0 0),(.ref 432),(.int 293 0),(.int 0 0),(.ref 439),(.int 299 0),(.int 0 0),(.ref 446),(.int 308 0),(.int 0 0),(.ref 453),(.int 312 0),(.int 0 0),(.ref 458),(.int 329 0),(.int 0 0),(.ref 465),(.int 338 0),(.int 0 0),(.ref 472),(.int 347 0),(.int 0 0),(.ref 479),(.int 368 0),(.int 0 0),(.ref 486),(.int 380 0),(.int 0 0),(.ref 493),(.int 395 0),(.int 0 0),(.ref 498)]
noncomputable def Ub(P:Params):List (Nat×Obj):=[(12,CN (Ua.take 0))]
noncomputable def T0(P:Params):BT:=Su 15 (λb=>Hc [12] P (Ub P) ob b 0) 1 0 0
noncomputable abbrev S0(w:World)(os:OsState):SharedT:=⟨T0 w.params,15,rA,#[],⟨0,0,0,0⟩,187,os⟩
noncomputable def Uc(P:Params):List (Nat×Obj):=[(3,yv P (.str "ringloads.errors" 198) ((IG P).take 2) 11),(12,CN (Ua.take 6)),(38,(Obj.mk (.type "type") none (.cls (PySem.ClassData.mk "LoadError" [(.type "ValueError")] [(.ref 38),(.type "ValueError"),(.type "Exception"),(.type "BaseException"),(.type "object")] 37 "LoadError" true [] [] false none false)) #[(some (.ref 22)),none,(some (.str "LoadError" 200)),(some (.str "LoadError" 208)),(some (.builtin "ValueError.__new__")),(some (.bool true))]))]
noncomputable def T1(P:Params):BT:=Su 42 (λb=>Hc [3,12,38] P (Uc P) ob b 1) 1 0 1
noncomputable abbrev S1(w:World)(os:OsState):SharedT:=⟨T1 w.params,42,rA,#[],⟨0,0,0,0⟩,226,os⟩
noncomputable def Ud(P:Params):List (Nat×Obj):=[(3,yv P (.str "ringloads.ratios" 282) ((IG P).take 8) 17),(12,CN (Ua.take 21))]
noncomputable def T2(P:Params):BT:=Su 90 (λb=>Hc [3,12] P (Ud P) ob b 2) 1 0 2
noncomputable abbrev S2(w:World)(os:OsState):SharedT:=⟨T2 w.params,90,rA,#[],⟨0,0,0,0⟩,287,os⟩
noncomputable def Ue(P:Params):List (Nat×Obj):=[(3,yv P (.str "ringloads.ways" 392) ((IG P).take 21) 30),(12,CN (Ua.take 57))]
noncomputable def T3(P:Params):BT:=Su 172 (λb=>Hc [3,12] P (Ue P) ob b 3) 1 0 3
noncomputable abbrev S3(w:World)(os:OsState):SharedT:=⟨T3 w.params,172,rA,#[],⟨0,0,0,0⟩,396,os⟩
noncomputable def Ug(P:Params):List (Nat×Obj):=[(3,yv P (.str "ringloads.slides" 426) ((IG P).take 34) 43),(12,CN (Ua.take 93))]
noncomputable def T4(P:Params):BT:=Su 250 (λb=>Hc [3,12] P (Ug P) ob b 4) 1 0 4
noncomputable abbrev S4(w:World)(os:OsState):SharedT:=⟨T4 w.params,250,rA,#[],⟨0,0,0,0⟩,500,os⟩
noncomputable def Uh(P:Params):List (Nat×Obj):=[(3,yv P (.str "ringloads.rounding" 534) ((IG P).take 46) 55),(12,CN (Ua.take 126))]
noncomputable def T5(P:Params):BT:=Su 328 (λb=>Hc [3,12] P (Uh P) ob b 5) 1 0 5
noncomputable abbrev S5(w:World)(os:OsState):SharedT:=⟨T5 w.params,328,rA,#[],⟨0,0,0,0⟩,622,os⟩
noncomputable def Ui(P:Params):List (Nat×Obj):=[(3,yv P (.str "law_ringloads_k37_roundings_told" 637) ((IG P).take 58) 67),(12,CN (Ua.take 162))]
noncomputable def T6(P:Params):BT:=Su 408 (λb=>Hc [3,12] P (Ui P) ob b 6) 1 0 6
noncomputable abbrev S6(w:World)(os:OsState):SharedT:=⟨T6 w.params,408,rA,#[],⟨0,0,0,0⟩,755,os⟩
noncomputable def Uj(P:Params):List (Nat×Obj):=[(3,yv P (.str "law_ringloads_k37_roundings_told" 637) ((IG P).take 70) 79),(12,CN (Ua.take 198))]
noncomputable def T7(P:Params):BT:=Su 488 (λb=>Hc [3,12] P (Uj P) ob b 7) 1 0 7
noncomputable abbrev S7(w:World)(os:OsState):SharedT:=⟨T7 w.params,488,rA,#[],⟨0,0,0,0⟩,890,os⟩
noncomputable def Uk(P:Params):List (Nat×Obj):=[(3,yv P (.str "law_ringloads_k37_roundings_told" 637) ((IG P).take 72) 81),(12,CN (Ua.take 204))]
noncomputable def T8(P:Params):BT:=Su 500 (λb=>Hc [3,12] P (Uk P) ob b 8) 1 0 8
noncomputable abbrev S8(w:World)(os:OsState):SharedT:=⟨T8 w.params,500,rA,#[],⟨0,0,0,0⟩,907,os⟩
noncomputable abbrev env:Env:={scope:=pr.main.scope,locals:=mainNs,globals:=mainNs,cells:=[],code:=.ref 13,frame:=some 14}
noncomputable abbrev cE:Code:=.body (behindTheImports pr) env
noncomputable abbrev B:List Frame:=[topFrame ⟨0,0,0,0⟩]
noncomputable def O0:List Stmt:=(pr.main.body.drop 0).take 4
theorem Ul(w:World)(os:OsState):segRunT treeTable pr w 11 (some (.ref 6)) 1 267 (S0 w os) (piecesOf O0 env cE ⟨0,0,0,0⟩ B)=some (.next,S1 w os,cE,⟨9,0,12,39⟩):=qU z_
noncomputable def O1:List Stmt:=(pr.main.body.drop 4).take 8
theorem Um(w:World)(os:OsState):segRunT treeTable pr w 11 (some (.ref 6)) 1 393 (S1 w os) (piecesOf O1 env cE ⟨9,0,12,39⟩ B)=some (.next,S2 w os,cE,⟨28,0,28,6⟩):=qU z_
noncomputable def O2:List Stmt:=(pr.main.body.drop 12).take 15
theorem Uo(w:World)(os:OsState):segRunT treeTable pr w 11 (some (.ref 6)) 1 393 (S2 w os) (piecesOf O2 env cE ⟨28,0,28,6⟩ B)=some (.next,S3 w os,cE,⟨66,0,66,2⟩):=qU z_
noncomputable def O3:List Stmt:=(pr.main.body.drop 27).take 15
theorem Up(w:World)(os:OsState):segRunT treeTable pr w 11 (some (.ref 6)) 1 384 (S3 w os) (piecesOf O3 env cE ⟨66,0,66,2⟩ B)=some (.next,S4 w os,cE,⟨118,0,119,67⟩):=qU z_
noncomputable def O4:List Stmt:=(pr.main.body.drop 42).take 13
theorem Uq(w:World)(os:OsState):segRunT treeTable pr w 11 (some (.ref 6)) 1 381 (S4 w os) (piecesOf O4 env cE ⟨118,0,119,67⟩ B)=some (.next,S5 w os,cE,⟨176,0,179,72⟩):=qU z_
noncomputable def O5:List Stmt:=(pr.main.body.drop 55).take 13
theorem Ur(w:World)(os:OsState):segRunT treeTable pr w 11 (some (.ref 6)) 1 401 (S5 w os) (piecesOf O5 env cE ⟨176,0,179,72⟩ B)=some (.next,S6 w os,cE,⟨270,0,271,107⟩):=qU z_
noncomputable def O6:List Stmt:=(pr.main.body.drop 68).take 12
theorem Us(w:World)(os:OsState):segRunT treeTable pr w 11 (some (.ref 6)) 1 396 (S6 w os) (piecesOf O6 env cE ⟨270,0,271,107⟩ B)=some (.next,S7 w os,cE,⟨368,0,379,91⟩):=qU z_
noncomputable def O7:List Stmt:=(pr.main.body.drop 80).take 2
theorem Ut(w:World)(os:OsState):segRunT treeTable pr w 11 (some (.ref 6)) 1 60 (S7 w os) (piecesOf O7 env cE ⟨368,0,379,91⟩ B)=some (.next,S8 w os,cE,⟨395,0,409,15⟩):=qU z_
noncomputable abbrev H1(P:Params):Heap:=absHeap (T8 P) 500 rA
theorem pre(w:World)(os:OsState):topGo treeTable pr w 11 (some (.ref 6)) 12 ⟨boot_heap w.params,#[],boot_drawn,boot_toks,os⟩ (topStub pr)=some (⟨⟨⟨KC w.params⟩,rA⟩,#[],⟨0,0,0,0⟩,187,os⟩,⟨denote treeTable cE,cE,⟨0,0,0,0⟩,B⟩):=by rw[M7];exact Ol z_
theorem IM(w:World)(os:OsState):segRun treeTable pr w 11 (some (.ref 6)) 1 1 ⟨⟨⟨KC w.params⟩,rA⟩,#[],⟨0,0,0,0⟩,187,os⟩ (blockOf (behindTheImports pr) env cE ⟨0,0,0,0⟩ B)=some (.next,(S0 w os).abs,cE,⟨0,0,0,0⟩):=by kernel_rfl
theorem Qd(w:World)(os:OsState):topRun treeTable pr w 11 (some (.ref 6)) 2 (S8 w os).abs ⟨doneF .next,cE,⟨395,0,409,15⟩,B⟩=some ⟨H1 w.params,#[],⟨0,0,0,0⟩,907,os⟩:=M6 z_
theorem KF:behindTheImports pr=(O0++(O1++(O2++(O3++(O4++(O5++(O6++(O7++[])))))))):=by kernel_rfl
theorem run(w:World)(os:OsState):topRun treeTable pr w 11 (some (.ref 6)) (12+(1+(267+(393+(393+(384+(381+(401+(396+(60+2)))))))))) ⟨boot_heap w.params,#[],boot_drawn,boot_toks,os⟩ (topStub pr)=some ⟨H1 w.params,#[],⟨0,0,0,0⟩,907,os⟩ :=
 go_top (pre w os) (piece_block (IM w os) (KD KF (piece_app (segRun_of (Ul w os)) (piece_app (segRun_of (Um w os)) (piece_app (segRun_of (Uo w os)) (piece_app (segRun_of (Up w os)) (piece_app (segRun_of (Uq w os)) (piece_app (segRun_of (Ur w os)) (piece_app (segRun_of (Us w os)) (piece_app (segRun_of (Ut w os)) (piece_nil (Qd w os))))))))))))
noncomputable abbrev q:Program:=view pr [52,81]
noncomputable def loose:List Str:=(["greatest_shared","LoadError","NoSlide","is_whole","is_number_below","are_two_wholes","is_ratio","NOUGHT","lowest","plus","minus","times","under","greater","lesser","lesser_place","greater_place","do_cross","parted_in","first_side_by_side","ON","BACK","is_way","other_way","ties_of","are_ways","slid_by","is_slide","has_form_of_slide","share_no_tie","not_sent","most_slid","slid_once","part_behind","slides_for","greatest_slide","ways_apart","HALF","lets_rounding","keeps_whole_asks","nearest_way","keeps_within","half_of_greatest","rising_way","gain_of","rounding_of","rounded_ways","_law_begun","_law_take","_law_low","_law_amount","_law_names","_law_rooms","_law_ends","_law_ring","_law_parts","_law_plus","_law_minus","_law_under","_law_ties","_law_cross","_law_parted","_law_is_ratio","_law_gone","_law_is_slide","_law_slid","_law_behind","_law_crossed_sums","_law_rounds","_law_right"]:List String).map Str.ofString
noncomputable def Kf(P:Params):Frag:=(3,((Uk P).getD 0 (0,default)).2)::[(20,(f1 P).getD 5 default),(21,(f1 P).getD 6 default),(22,(f3 P).getD 0 default),(23,(f3 P).getD 1 default),(24,(f3 P).getD 2 default),(25,(f3 P).getD 3 default),(26,(f3 P).getD 4 default),(27,(f3 P).getD 5 default),(28,(f3 P).getD 6 default),(29,(f3 P).getD 7 default),(30,(f3 P).getD 8 default),(31,(f3 P).getD 9 default),(32,(f3 P).getD 10 default),(33,(f3 P).getD 11 default),(34,(f3 P).getD 12 default),(35,(f3 P).getD 13 default),(36,(f3 P).getD 14 default),(37,(f3 P).getD 15 default),(38,(f3 P).getD 16 default),(39,(f3 P).getD 17 default),(40,(f3 P).getD 18 default),(41,(f3 P).getD 19 default),(42,(f4 P).getD 0 default),(43,(f4 P).getD 1 default),(44,(f4 P).getD 2 default),(45,(f4 P).getD 3 default),(46,(f4 P).getD 4 default),(47,(f4 P).getD 5 default),(48,(f4 P).getD 6 default),(49,(f4 P).getD 7 default),(50,(f4 P).getD 8 default),(51,(f4 P).getD 9 default),(52,(f4 P).getD 10 default),(53,(f4 P).getD 11 default),(54,(f4 P).getD 12 default),(55,(f4 P).getD 13 default),(56,(f4 P).getD 14 default),(57,(f4 P).getD 15 default),(58,(f4 P).getD 16 default),(59,(f4 P).getD 17 default),(60,(f4 P).getD 18 default),(66,(f6 P).getD 5 default),(67,(f6 P).getD 6 default),(73,(f7 P).getD 5 default),(74,(f7 P).getD 6 default),(80,(f8 P).getD 5 default),(81,(f8 P).getD 6 default),(87,(f9 P).getD 5 default),(88,(f9 P).getD 6 default),(89,(Sv P).getD 0 default),(95,(Sw P).getD 5 default),(96,(Sw P).getD 6 default),(102,(Sx P).getD 5 default),(103,(Sx P).getD 6 default),(109,(Sy P).getD 5 default),(110,(Sy P).getD 6 default),(116,(Sz P).getD 5 default),(117,(Sz P).getD 6 default),(123,(SA P).getD 5 default),(124,(SA P).getD 6 default),(130,(SB P).getD 5 default),(131,(SB P).getD 6 default),(137,(SC P).getD 5 default),(138,(SC P).getD 6 default),(144,(SD P).getD 5 default),(145,(SD P).getD 6 default),(151,(SE P).getD 5 default),(152,(SE P).getD 6 default),(158,(SF P).getD 5 default),(159,(SF P).getD 6 default),(163,(SG P).getD 3 default),(164,(SG P).getD 4 default),(170,(SH P).getD 5 default),(171,(SH P).getD 6 default),(177,(SI P).getD 5 default),(178,(SI P).getD 6 default),(184,(SJ P).getD 5 default),(185,(SJ P).getD 6 default),(189,(SK P).getD 3 default),(190,(SK P).getD 4 default),(194,(SL P).getD 3 default),(195,(SL P).getD 4 default),(201,(SN P).getD 5 default),(202,(SN P).getD 6 default),(208,(SO P).getD 5 default),(209,(SO P).getD 6 default),(215,(SQ P).getD 5 default),(216,(SQ P).getD 6 default),(220,(SR P).getD 3 default),(221,(SR P).getD 4 default),(227,(SS P).getD 5 default),(228,(SS P).getD 6 default),(234,(SU P).getD 5 default),(235,(SU P).getD 6 default),(241,(SV P).getD 5 default),(242,(SV P).getD 6 default),(248,(SW P).getD 5 default),(249,(SW P).getD 6 default),(255,(SX P).getD 5 default),(256,(SX P).getD 6 default),(262,(SY P).getD 5 default),(263,(SY P).getD 6 default),(269,(SZ P).getD 5 default),(270,(SZ P).getD 6 default),(271,(S9 P).getD 0 default),(277,(Ta P).getD 5 default),(278,(Ta P).getD 6 default),(284,(Tb P).getD 5 default),(285,(Tb P).getD 6 default),(291,(Tc P).getD 5 default),(292,(Tc P).getD 6 default),(298,(Td P).getD 5 default),(299,(Td P).getD 6 default),(305,(Te P).getD 5 default),(306,(Te P).getD 6 default),(312,(Tf P).getD 5 default),(313,(Tf P).getD 6 default),(319,(Th P).getD 5 default),(320,(Th P).getD 6 default),(326,(Ti P).getD 5 default),(327,(Ti P).getD 6 default),(333,(Tj P).getD 5 default),(334,(Tj P).getD 6 default),(338,(Tn P).getD 3 default),(339,(Tn P).getD 4 default),(345,(To P).getD 5 default),(346,(To P).getD 6 default),(352,(Tp P).getD 5 default),(353,(Tp P).getD 6 default),(359,(Tq P).getD 5 default),(360,(Tq P).getD 6 default),(366,(Tr P).getD 5 default),(367,(Tr P).getD 6 default),(371,(Ts P).getD 3 default),(372,(Ts P).getD 4 default),(378,(Tt P).getD 5 default),(379,(Tt P).getD 6 default),(385,(Tu P).getD 5 default),(386,(Tu P).getD 6 default),(392,(Tv P).getD 5 default),(393,(Tv P).getD 6 default),(399,(Tz P).getD 5 default),(400,(Tz P).getD 6 default),(406,(TB P).getD 5 default),(407,(TB P).getD 6 default),(413,(TC P).getD 5 default),(414,(TC P).getD 6 default),(420,(TF P).getD 5 default),(421,(TF P).getD 6 default),(427,(TH P).getD 5 default),(428,(TH P).getD 6 default),(432,(TJ P).getD 3 default),(433,(TJ P).getD 4 default),(439,(TK P).getD 5 default),(440,(TK P).getD 6 default),(446,(TL P).getD 5 default),(447,(TL P).getD 6 default),(453,(TM P).getD 5 default),(454,(TM P).getD 6 default),(458,(TN P).getD 3 default),(459,(TN P).getD 4 default),(465,(TQ P).getD 5 default),(466,(TQ P).getD 6 default),(472,(TR P).getD 5 default),(473,(TR P).getD 6 default),(479,(TU P).getD 5 default),(480,(TU P).getD 6 default),(486,(TV P).getD 5 default),(487,(TV P).getD 6 default),(493,(TX P).getD 5 default),(494,(TX P).getD 6 default),(498,(TY P).getD 3 default),(499,(TY P).getD 4 default)]
noncomputable abbrev as:List Addr:=[3,20,21,22,23,24,25,26,27,28,29,30,31,32,33,34,35,36,37,38,39,40,41,42,43,44,45,46,47,48,49,50,51,52,53,54,55,56,57,58,59,60,66,67,73,74,80,81,87,88,89,95,96,102,103,109,110,116,117,123,124,130,131,137,138,144,145,151,152,158,159,163,164,170,171,177,178,184,185,189,190,194,195,201,202,208,209,215,216,220,221,227,228,234,235,241,242,248,249,255,256,262,263,269,270,271,277,278,284,285,291,292,298,299,305,306,312,313,319,320,326,327,333,334,338,339,345,346,352,353,359,360,366,367,371,372,378,379,385,386,392,393,399,400,406,407,413,414,420,421,427,428,432,433,439,440,446,447,453,454,458,459,465,466,472,473,479,480,486,487,493,494,498,499]
noncomputable abbrev Hk:Hook:=kHook Kf as (λ_=>by kernel_rfl)
noncomputable abbrev Xt:Shared→Bool:=fun s=>xlAt q [] s && recOk (RowW.records PySem.Challenge.rw_ringloads_k37_roundings_told.row.toRowW) s
theorem size (w:World):((boot_heap w.params).isNs mainGlobals && (#[]:Array GenState).size == 0,(boot_heap w.params).objs.size,(boot_heap w.params).nsMap mainGlobals "__annotations__")=(true,11,some (.ref 6)):=by kernel_rfl
theorem Ow(w:World)(os:OsState):(staticsOk (importedModules pr.main.body) (boot_heap w.params) (H1 w.params) && namesBound pr (H1 w.params) && gensDone ⟨H1 w.params,#[],⟨0,0,0,0⟩,907,os⟩ && laidKept (boot_heap w.params) (H1 w.params))=true:=by kernel_rfl
theorem Ox(w:World)(os:OsState):openSeen q loose (importedModules pr.main.body) Xt true ⟨H1 w.params,#[],⟨0,0,0,0⟩,907,os⟩=openGood q loose:=by rw[Fast.te4187177175401517315];kernel_rfl
theorem Oy(w:World)(os:OsState):Hk.obs ⟨H1 w.params,#[],⟨0,0,0,0⟩,907,os⟩=Hk.val w:=by kernel_rfl
theorem M8:opening pr=plainProg pr.main.scope.names:=by kernel_rfl
theorem left:LeftO pr q loose Xt Hk.obs Hk.val 6034:=LeftO.of_pieces (M:=(12+(1+(267+(393+(393+(384+(381+(401+(396+(60+2))))))))))) (boot_open M8 xp (λs=>by kernel_rfl)) size run y_ (λw=>funext λos=>looks_pair (Ow w os) (looks_pair (Ox w os) (Oy w os)))
end Hd
namespace My
open PySem L2
local macro_rules | `(tactic| walk_at $q:str)=>do
 if q.getString == "o" then Lean.Macro.throwUnsupported
 let ids:=("Gj JP Gk Gb DG LM FO Jf LN FP Jg F5 Mc Jv JF JY Gr Mi NX JH Mj NY JK NZ JW rS Mt Mv LG LH FN Dj zC Mh A8 JE DC Cb Gd Gg Gh vT qP JI aW QZ aN ay QY ak nC wC bz bu sF bA aI b8 aZ aq pS aH QS K7 nH AR ju qL nD FQ QW nF NS Dk Dm bB eZ y6 sN Jt F0 kN Rl uF fj Gc DE DF List.all_cons List.all_nil Bool.and_true Bool.true_and B5 Nz xJ qM uC uv xO NA K9 JC vb zN zO Ci bj yc D0 GH jw dO Ba N1 DN mw bK uD gX B4 uw Jj Jk LU pN uE FR GB GC GD GE GF J4 J5 J6 J7 MK ML Ka Kb Ob Oc D5 D6 Kd A6 rR Im Bj D8 DY Bk vh cx MM GG List.length_map DZ D1 D2 D3 GJ Cj D4 zQ zR zS yd zT vZ GK J8 zu zv Ds xC sM gN GL Ke GM GN GO GP Ck ye yf D7 Kg F6 va pX beq_self_eq_true String.reduceBEq String.reduceEq reduceCtorEq HY B6 kL di i6 bI B8 Dx B9 kM Jz Md List.getElem?_cons_zero List.getElem?_cons_succ List.set_cons_zero List.set_cons_succ List.cons_append List.nil_append List.replicate_succ List.replicate_zero List.map_cons List.map_nil List.drop_succ_cons List.drop_zero Option.getD_some true_and decide_eq_true_eq Bool.not_eq_true' decide_eq_false_iff_not ite_true ite_false Bool.false_eq_true Bool.true_eq_false if_true if_false List.length_cons List.length_nil Nat.reduceAdd Nat.reduceSub xX xY Gw MI N9 Pq Pu Pv Option.some.injEq exists_eq_left' exists_eq_left".splitOn " ").toArray.map fun s=>Lean.mkIdent ((s.splitOn ".").foldl Lean.Name.mkStr Lean.Name.anonymous)
 if q.getString == "v" then `(tactic| try simp only [$[$ids:ident],*]) else `(tactic| ((try dsimp only [$[$ids:ident],*]); try simp only [$[$ids:ident],*]))
local macro_rules | `(tactic| walk_at "o")=>`(tactic| first | exact Or.inl rfl | exact Or.inr rfl)
theorem v6{a b:Prop}(h:a∨b:=by walk_at "o"):a∨b:=h
noncomputable abbrev fm:Stmt:=Hd.top 1
noncomputable abbrev qd:List Str:=["one","other","rest"]
noncomputable abbrev qe:Stmt:=Hd.top 6
noncomputable abbrev Ct:List Str:=["thing"]
noncomputable abbrev fu:Stmt:=Hd.top 7
noncomputable abbrev qf:List Str:=["thing","many"]
noncomputable abbrev gD:Stmt:=Hd.top 8
noncomputable abbrev rC:List Str:=["thing"]
noncomputable abbrev qg:Stmt:=Hd.top 9
noncomputable abbrev Cu:List Str:=["thing"]
noncomputable abbrev wo:Stmt:=Hd.top 12
noncomputable abbrev He:List Str:=["top","bottom","shared"]
noncomputable abbrev EE:Stmt:=Hd.top 13
noncomputable abbrev M9:List Str:=["one","other"]
noncomputable abbrev Aa:Stmt:=Hd.top 14
noncomputable abbrev KG:List Str:=["one","other"]
noncomputable abbrev Ab:Stmt:=Hd.top 15
noncomputable abbrev KH:List Str:=["one","other"]
noncomputable abbrev Ac:Stmt:=Hd.top 16
noncomputable abbrev KI:List Str:=["one","other"]
noncomputable abbrev tK:Stmt:=Hd.top 17
noncomputable abbrev EF:List Str:=["one","other"]
noncomputable abbrev wq:Stmt:=Hd.top 18
noncomputable abbrev Hf:List Str:=["one","other"]
noncomputable abbrev iM:Stmt:=Hd.top 20
noncomputable abbrev uH:List Str:=["ring","k"]
noncomputable abbrev g8:Stmt:=Hd.top 21
noncomputable abbrev tM:List Str:=["ring","k"]
noncomputable abbrev qh:Stmt:=Hd.top 22
noncomputable abbrev Cv:List Str:=["ring","k","l","low","high","first","last"]
noncomputable abbrev jH:Stmt:=Hd.top 23
noncomputable abbrev tN:List Str:=["ring","sending"]
noncomputable abbrev dz:Stmt:=Hd.top 24
noncomputable abbrev my:List Str:=["ring","some","number","k","l"]
noncomputable abbrev wu:Stmt:=Hd.top 28
noncomputable abbrev Hg:List Str:=["thing"]
noncomputable abbrev nM:Stmt:=Hd.top 29
noncomputable abbrev Ad:List Str:=["way"]
noncomputable abbrev kT:Stmt:=Hd.top 30
noncomputable abbrev tO:List Str:=["ring","k","way","places","one","other"]
noncomputable abbrev mi:Stmt:=Hd.top 32
noncomputable abbrev vn:List Str:=["ring","thing"]
noncomputable abbrev jI:Stmt:=Hd.top 41
noncomputable abbrev wx:List Str:=["part","way","amount"]
noncomputable abbrev nN:Stmt:=Hd.top 40
noncomputable abbrev Ae:List Str:=["sending","slide","slid"]
noncomputable abbrev fM:Stmt:=Hd.top 37
noncomputable abbrev mL:List Str:=["ring","k","way","l","other","taken"]
noncomputable abbrev dP:Stmt:=Hd.top 36
noncomputable abbrev nO:List Str:=["thing","asks"]
noncomputable abbrev qj:Stmt:=Hd.top 38
noncomputable abbrev Cw:List Str:=["ring","sending","k","way"]
noncomputable abbrev nQ:Stmt:=Hd.top 39
noncomputable abbrev Af:List Str:=["ring","sending","slide"]
noncomputable abbrev qk:Stmt:=Hd.top 35
noncomputable abbrev Cy:List Str:=["ring","sending","thing"]
noncomputable abbrev tP:Stmt:=Hd.top 34
noncomputable abbrev EG:List Str:=["ring","sending","thing","slid","number","slide"]
noncomputable abbrev kU:Stmt:=Hd.top 44
noncomputable abbrev yw:List Str:=["ring","k","l","ways"]
noncomputable abbrev gE:Stmt:=Hd.top 43
noncomputable abbrev rD:List Str:=["ring","sending","k","l","ways","slide"]
noncomputable abbrev kW:Stmt:=Hd.top 42
noncomputable abbrev yx:List Str:=["ring","sending","slid","slides","pair","slide"]
noncomputable abbrev jJ:Stmt:=Hd.top 49
noncomputable abbrev wy:List Str:=["ask","part"]
noncomputable abbrev eL:Stmt:=Hd.top 48
noncomputable abbrev oZ:List Str:=["ring","slid","parted","ways","k","ask"]
noncomputable abbrev eM:Stmt:=Hd.top 51
noncomputable abbrev o4:List Str:=["ring","some","greatest","k"]
noncomputable abbrev c8:Stmt:=Hd.top 52
noncomputable abbrev qm:List Str:=["ring","some"]
noncomputable abbrev kX:Stmt:=Hd.top 53
noncomputable abbrev yy:List Str:=["ring","k"]
noncomputable abbrev tQ:Stmt:=Hd.top 54
noncomputable abbrev EH:List Str:=["ring","sending","k","way","size","rising"]
noncomputable abbrev iN:Stmt:=Hd.top 50
noncomputable abbrev uI:List Str:=["ring","slid","parted","ways","half","whole","k"]
noncomputable abbrev g9:Stmt:=Hd.top 47
noncomputable abbrev tR:List Str:=["ring","sending","thing","slid","parted"]
noncomputable abbrev fN:Stmt:=Hd.top 56
noncomputable abbrev mM:List Str:=["ring","slid","parted","ways","half","whole","k"]
noncomputable abbrev jK:Stmt:=Hd.top 55
noncomputable abbrev wz:List Str:=["ring","sending","slides"]
noncomputable abbrev kY:Stmt:=Hd.top 58
noncomputable abbrev yz:List Str:=["_law_script","_law_k","_law_cell"]
noncomputable abbrev nR:Stmt:=Hd.top 59
noncomputable abbrev Ag:List Str:=["_law_state","_law_many","_law_digit","_law_drawn","_law_turn"]
noncomputable abbrev gb:Stmt:=Hd.top 62
noncomputable abbrev kZ:List Str:=["_law_state","_law_many","_law_letters","_law_base","_law_at","_law_turn"]
noncomputable abbrev qn:Stmt:=Hd.top 60
noncomputable abbrev Cz:List Str:=["_law_top","_law_bottom","_law_one","_law_share"]
noncomputable abbrev jL:Stmt:=Hd.top 61
noncomputable abbrev wA:List Str:=["_law_state","_law_least","_law_kind","_law_bottom","_law_top"]
noncomputable abbrev k6:Stmt:=Hd.top 63
noncomputable abbrev yA:List Str:=["_law_state","_law_ties_here","_law_kind","_law_alike","_law_one","_law_rooms_here","_law_more"]
noncomputable abbrev nS:Stmt:=Hd.top 64
noncomputable abbrev Ah:List Str:=["_law_state","_law_shape","_law_places","_law_k","_law_one","_law_other"]
noncomputable abbrev nT:Stmt:=Hd.top 65
noncomputable abbrev Ai:List Str:=["_law_script","_law_at","_law_most","_law_count","_law_state","_law_places","_law_many","_law_kinds","_law_shape","_law_names_here","_law_rooms_here","_law_asks","_law_k","_law_one","_law_other"]
noncomputable abbrev k7:Stmt:=Hd.top 66
noncomputable abbrev yB:List Str:=["_law_state","_law_ring_here","_law_parts_here","_law_name","_law_one","_law_other","_law_size","_law_way","_law_share"]
noncomputable abbrev nU:Stmt:=Hd.top 67
noncomputable abbrev Aj:List Str:=["_law_one","_law_other"]
noncomputable abbrev k8:Stmt:=Hd.top 68
noncomputable abbrev yC:List Str:=["_law_one","_law_other"]
noncomputable abbrev nV:Stmt:=Hd.top 76
noncomputable abbrev Ak:List Str:=["_law_sending","_law_slide","_law_k","_law_way","_law_l","_law_other","_law_amount_here","_law_made","_law_one","_law_word"]
noncomputable abbrev nW:Stmt:=Hd.top 70
noncomputable abbrev Al:List Str:=["_law_ring_here","_law_k","_law_way","_law_name","_law_one","_law_other","_law_size","_law_ties_here"]
noncomputable abbrev k9:Stmt:=Hd.top 69
noncomputable abbrev yD:List Str:=["_law_one","_law_other"]
noncomputable abbrev hG:Stmt:=Hd.top 73
noncomputable abbrev tS:List Str:=["_law_thing","_law_part"]
noncomputable abbrev nX:Stmt:=Hd.top 74
noncomputable abbrev Am:List Str:=["_law_ring_here","_law_sending","_law_k","_law_way"]
noncomputable abbrev eN:Stmt:=Hd.top 75
noncomputable abbrev lg:List Str:=["_law_ring_here","_law_sending","_law_thing","_law_k","_law_way","_law_l","_law_other","_law_amount_here","_law_one","_law_word","_law_rest","_law_ties_here"]
noncomputable abbrev jM:Stmt:=Hd.top 77
noncomputable abbrev wB:List Str:=["_law_ring_here","_law_sending","_law_thing","_law_here","_law_one"]
noncomputable abbrev jN:Stmt:=Hd.top 72
noncomputable abbrev wD:List Str:=["_law_ring_here","_law_sending","_law_found","_law_k","_law_part"]
noncomputable abbrev iz:Stmt:=Hd.top 71
noncomputable abbrev qV:List Str:=["_law_ring_here","_law_k","_law_l","_law_marks","_law_place","_law_here"]
noncomputable abbrev dQ:Stmt:=Hd.top 78
noncomputable abbrev nY:List Str:=["_law_ring_here","_law_behind_here","_law_ways","_law_parted_here","_law_most","_law_rows","_law_k","_law_l","_law_name","_law_one","_law_other","_law_size","_law_rising","_law_gone_here","_law_whole","_law_gain","_law_total","_law_place"]
noncomputable abbrev jO:Stmt:=Hd.top 79
noncomputable abbrev wF:List Str:=["_law_ring_here","_law_behind_here","_law_ways","_law_way","_law_parted_here","_law_k","_law_gone_here"]
noncomputable abbrev lh:Stmt:=Hd.top 80
noncomputable abbrev yE:List Str:=["_law_ring_here","_law_sending","_law_told","_law_behind_here","_law_held"]
noncomputable abbrev An:Stmt:=Hd.top 81
noncomputable abbrev Hh:List Str:=["_law_script","_law_at","_law_ring_here","_law_state","_law_sending","_law_kept","_law_ways","_law_whole","_law_slides","_law_told","_law_unlike"]
def cG:FS:=λls k4=>∃a b:Int,ls=[.d (.int a),.d (.int b)]/\k4 (.d (.int (Int.gcd a b))) ls
def nZ:W Fl:=(aW (bz 2 (ay gX (ak 0) (ak 1)))
  (aW (bz 0 (ak 1))
  (bz 1 (ak 2))))
def fv:W Fl:=(aW (sI (aN (ay uE (ak 1) (wC (.int 0)))) nZ)
  (bu (aZ zu (aq (ak 0) aH))))
theorem n4:∀ls k4,ls.length=2->cG ls k4->fv (ls++List.replicate 1 .un) (aY ls k4):=by
 rintro ls k4 - ⟨a,b,rfl,h⟩;unfold fv;walk_at "w";refine⟨λn Z=>∃x y r,Z=[.d (.int x),.d (.int y),r]/\Int.gcd x y=Int.gcd a b/\n=y.natAbs,⟨_,a,b,_,rfl,rfl,rfl⟩,?_⟩;rintro n Z ⟨x,y,r,rfl,hg,rfl⟩;walk_at "w";split
 .
  rename_i hy;have hy:y≠0:=by simpa using hy
  exact⟨hy,_,mI x hy,y,x.fmod y,_,rfl,by rw[A2];exact hg,rfl⟩
 .
  rename_i hy;have hy:y=0:=by simpa using hy
  subst hy;refine⟨_,aj (aj aP),?_⟩
  have e:(if x<0 then -x else x)=((Int.gcd a b:Nat):Int):=by rw[<- hg,Int.gcd_zero_right];split<;>omega
  rw[e];exact h
def hJ:FS:=λls k4=>(∃i:Int,ls=[.d (.int i)]/\k4 (.d (.bl true)) ls)∨∃d:D,ls=[.d d]/\(∀i,d≠.int i)/\k4 (.d (.bl false)) ls
def mj:W Fl:=(bu (nF (QY (gN "int") (ak 0)) (Dk (aN (QY (gN "bool") (ak 0))))))
theorem yF:∀ls k4,ls.length=1->hJ ls k4->mj (ls++List.replicate 0 .un) (aY ls k4):=by
 rintro ls k4-(⟨i,rfl,h⟩|⟨d,rfl,hd,h⟩)
 . unfold mj;walk_at "w";exact⟨_,aj aP,h⟩
 .
  unfold mj
  cases d with
  |int i=>exact absurd rfl (hd i)
  |_=>walk_at "w"; exact⟨_,aj aP,h⟩
def cH:FS:=λls k4=>∃(d:D)(n:Int),ls=[.d d,.d (.int n)]/\k4 (.d (.bl (kC d n))) ls
def fw:W Fl:=(bu (nF (aI hJ (aq (ak 0) aH)) (vb Jj uw (wC (.int 0)) (ak 0) (ak 1))))
theorem n5:∀ls k4,ls.length=2->cH ls k4->fw (ls++List.replicate 0 .un) (aY ls k4):=by
 rintro ls k4 - ⟨d,n,rfl,h⟩;unfold fw;by_cases hd:∃i,d=.int i
 .
  obtain⟨i,rfl⟩:=hd;have h:k4 (.d (.bl (decide (0<=i/\i<n)))) [.d (.int i),.d (.int n)]:=h;walk_at "w";refine .inl ⟨i,rfl,?_⟩;walk_at "w";by_cases c:0<=i
  .
   rw[if_pos c];have e:decide (0<=i/\i<n)=decide (i<n):=by rw[Wq];omega
   rw[e]at h;exact⟨_,aj (aj aP),h⟩
  . rw[if_neg c];have e:decide (0<=i/\i<n)=false:=UM xL;rw[e]at h;exact⟨_,aj (aj aP),h⟩
 .
  have e:kC d n=false:=by
   unfold kC;split
   . exact absurd ⟨_,rfl⟩ hd
   . rfl
  rw[e]at h;walk_at "w";refine .inr ⟨d,rfl,λi e=>hd ⟨i,e⟩,?_⟩;walk_at "w";exact⟨_,aj (aj aP),h⟩
noncomputable def PU:D->Bool
 |.tup [.int _,.int _]=>true
 |_=>false
def fz:FS:=λls k4=>(∃i j:Int,ls=[.d (.tup [.int i,.int j])]/\k4 (.d (.bl true)) ls)∨∃d:D,ls=[.d d]/\(∀i j,d≠.tup [.int i,.int j])/\k4 (.d (.bl false)) ls
def dM:W Fl:=(bu (nF (QY (gN "tuple") (ak 0)) (nF (ay pN (aZ cZ (aq (ak 0) aH)) (wC (.int 2))) (nF (aI hJ (aq (ay aM (ak 0) (wC (.int 0))) aH)) (aI hJ (aq (ay aM (ak 0) (wC (.int 1))) aH))))))
theorem o5:∀ls k4,ls.length=1->fz ls k4->dM (ls++List.replicate 0 .un) (aY ls k4):=by
 rintro ls k4-(⟨i,j,rfl,h⟩|⟨d,rfl,hd,h⟩)
 . unfold dM;walk_at "w";refine .inl ⟨_,rfl,?_⟩;walk_at "w";refine .inl ⟨_,rfl,?_⟩;walk_at "w";exact⟨_,aj aP,h⟩
 .
  unfold dM;have Qd:aY [.d d] k4 (.rt (.d (.bl false))) [.d d]:=⟨_,aj aP,h⟩;by_cases ht:∃xs,d=.tup xs
  .
   obtain⟨xs,rfl⟩:=ht;by_cases hl:xs.length=2
   .
    obtain⟨x,y,rfl⟩:∃x y,xs=[x,y]:=by rcases xs with _|⟨x,_|⟨y,_|⟨z,r⟩⟩⟩<;>simp at hl;exact⟨_,_,rfl⟩
    have wh:∀z:D,(∃i,z=.int i)∨(∀i,z≠.int i):=λz=>by cases z<;>simp
    walk_at "w";rcases wh x with⟨i,rfl⟩|hx
    .
     refine .inl ⟨_,rfl,?_⟩;rcases wh y with⟨j,rfl⟩|hy
     . exact absurd rfl (hd i j)
     . walk_at "w";refine .inr ⟨_,rfl,hy,?_⟩;walk_at "w";exact Qd
    . refine .inr ⟨_,rfl,hx,?_⟩;walk_at "w";exact Qd
   .
    walk_at "w";have e:¬((xs.length:Int)=2):=by omega
    simp only[e,decide_false];exact Qd
  .
   have ei:oG "tuple" d=false:=by
    cases d<;>first
     |exact absurd ⟨_,rfl⟩ ht
     |rfl
   walk_at "w";rw[ei];walk_at "w";exact Qd
def n6:FS:=λls k4=>∃d:D,ls=[.d d]/\k4 (.d (.bl (tF d))) ls
def ml:W Fl:=(bu (nF (aI fz (aq (ak 0) aH)) (nF (ay LU (ay aM (ak 0) (wC (.int 1))) (wC (.int 1))) (ay pN (aI cG (aq (ay aM (ak 0) (wC (.int 0))) (aq (ay aM (ak 0) (wC (.int 1))) aH))) (wC (.int 1))))))
theorem yG:∀ls k4,ls.length=1->n6 ls k4->ml (ls++List.replicate 0 .un) (aY ls k4):=by
 rintro ls k4 - ⟨d,rfl,h⟩;by_cases hd:∃i j,d=.tup [.int i,.int j]
 .
  obtain⟨i,j,rfl⟩:=hd;unfold ml;walk_at "w";refine .inl ⟨_,_,rfl,?_⟩;walk_at "w";have e:tF (.tup [.int i,.int j])=(decide (1<=j) && decide ((Int.gcd i j:Int)=1)):=rfl;rw[e]at h;split
  . rename_i hj;refine⟨_,_,rfl,?_⟩;walk_at "w";have hj':(1:Int)<=j:=hj;rw[UX hj',VR]at h;exact⟨_,aj aP,h⟩
  . rename_i hj;have hj':¬(1:Int)<=j:=hj;rw[UM hj',Wg]at h;exact⟨_,aj aP,h⟩
 . have hn:∀i j,d≠.tup [.int i,.int j]:=λi j e=>hd ⟨i,j,e⟩;rw[p9 hn]at h;unfold ml;walk_at "w";refine .inr ⟨_,rfl,hn,?_⟩;walk_at "w";exact⟨_,aj aP,h⟩
def lj:FS:=λls k4=>∃t b:Int,ls=[.d (.int t),.d (.int b)]/\b≠0/\b.natAbs<2^9000/\k4 (.d (Rh (Rat.divInt t b))) ls
def wG:W Fl:=(aW (bz 2 (bB (aI cG (aq (ak 0) (aq (ak 1) aH)))))
  (aW (QZ (aN (ay uw (ak 1) (wC (.int 0)))) (bz 2 (QY FR (ak 2))) bA)
  (bu (ju (aq (ay uD (ak 0) (ak 2)) (aq (ay uD (ak 1) (ak 2)) aH))))))
theorem CA:∀ls k4,ls.length=2->lj ls k4->wG (ls++List.replicate 1 .un) (aY ls k4):=by
 rintro ls k4 - ⟨t,b,rfl,hb,hz,h⟩;unfold wG;walk_at "w";refine⟨t,b,rfl,?_⟩;walk_at "w";have h1:=A3 (t:=t) hb;have h2:=U1 (A4 (t:=t) hb) hz
 have Qd:∀{g:Int}{Z:Ev},g=dn t b->g≠0/\g.natAbs<2^9000/\g≠0/\g.natAbs<2^9000/\2<=sizeLine/\aY [.d (.int t),.d (.int b)] k4 (.rt (.d (.tup [.int (t.fdiv g),.int (b.fdiv g)]))) Z:=λ{g Z} e=>by
  have e1:g≠0:=by rw[e];exact h1
  have e2:g.natAbs<2^9000:=by rw[e];exact h2
  refine⟨e1,e2,e1,e2,xp,_,aj (aj aP),?_⟩;rw[Bi hb e];exact h
 split
 . rename_i hlt;exact Qd (by simp[dn,hlt])
 . rename_i hlt;exact Qd (by simp[dn,hlt])
def ll:FS:=λls k4=>∃p q:Rat,ls=[.d (Rh p),.d (Rh q)]/\RB 400000 p/\RB 400000 q/\p.den*q.den<2^9000/\k4 (.d (Rh (p+q))) ls
def EJ:W Fl:=(bu (aI lj (aq (bB (ay dO (ay bK (ay aM (ak 0) (wC (.int 0))) (ay aM (ak 1) (wC (.int 1)))) (ay bK (ay aM (ak 1) (wC (.int 0))) (ay aM (ak 0) (wC (.int 1)))))) (aq (bB (ay bK (ay aM (ak 0) (wC (.int 1))) (ay aM (ak 1) (wC (.int 1))))) aH))))
theorem Hi:∀ls k4,ls.length=2->ll ls k4->EJ (ls++List.replicate 0 .un) (aY ls k4):=by rintro ls k4 - ⟨p,q,rfl,hp,hq,hz,h⟩;unfold EJ;simp only[Rh];walk_at "w";refine⟨hp.bn xp,hq.bd xp,hq.bn xp,hp.bd xp,hp.bd xp,hq.bd xp,_,_,rfl,p6 p q,by rw[mf];exact hz,_,aj (aj aP),?_⟩;rw[A5];exact h
theorem Hj{p q:Rat}{k4:L->List L->Prop}(hp:RB 4400 p)(hq:RB 4400 q)(h:k4 (.d (Rh (p+q))) [.d (Rh p),.d (Rh q)]):ll [.d (Rh p),.d (Rh q)] k4 :=
 ⟨p,q,rfl,hp.mono xp,hq.mono xp,so (bp hp.2 hq.2) (UW xp xp),h⟩
def fO:FS:=λls k4=>∃p q:Rat,ls=[.d (Rh p),.d (Rh q)]/\RB 400000 p/\RB 400000 q/\p.den*q.den<2^9000/\k4 (.d (Rh (p-q))) ls
def Ao:W Fl:=(bu (aI lj (aq (ay mw (ay bK (ay aM (ak 0) (wC (.int 0))) (ay aM (ak 1) (wC (.int 1)))) (ay bK (ay aM (ak 1) (wC (.int 0))) (ay aM (ak 0) (wC (.int 1))))) (aq (bB (ay bK (ay aM (ak 0) (wC (.int 1))) (ay aM (ak 1) (wC (.int 1))))) aH))))
theorem EK:∀ls k4,ls.length=2->fO ls k4->Ao (ls++List.replicate 0 .un) (aY ls k4):=by rintro ls k4 - ⟨p,q,rfl,hp,hq,hz,h⟩;unfold Ao;simp only[Rh];walk_at "w";refine⟨hp.bn xp,hq.bd xp,hq.bn xp,hp.bd xp,hp.bd xp,hq.bd xp,_,_,rfl,p6 p q,by rw[mf];exact hz,_,aj (aj aP),?_⟩;rw[HX];exact h
theorem ja{p q:Rat}{k4:L->List L->Prop}(hp:RB 4400 p)(hq:RB 4400 q)(h:k4 (.d (Rh (p-q))) [.d (Rh p),.d (Rh q)]):fO [.d (Rh p),.d (Rh q)] k4 :=
 ⟨p,q,rfl,hp.mono xp,hq.mono xp,so (bp hp.2 hq.2) (UW xp xp),h⟩
def wH:FS:=λls k4=>∃p q:Rat,ls=[.d (Rh p),.d (Rh q)]/\RB 4400 p/\RB 4400 q/\k4 (.d (Rh (p*q))) ls
def Ap:W Fl:=(bu (aI lj (aq (bB (ay bK (ay aM (ak 0) (wC (.int 0))) (ay aM (ak 1) (wC (.int 0))))) (aq (bB (ay bK (ay aM (ak 0) (wC (.int 1))) (ay aM (ak 1) (wC (.int 1))))) aH))))
theorem EM:∀ls k4,ls.length=2->wH ls k4->Ap (ls++List.replicate 0 .un) (aY ls k4):=by
 rintro ls k4 - ⟨p,q,rfl,hp,hq,h⟩;unfold Ap;walk_at "w";refine⟨hp.bn xp,hq.bn xp,hp.bd xp,hq.bd xp,_,_,rfl,p6 p q,?_,_,aj (aj aP),?_⟩
 . rw[mf];exact so (bp hp.2 hq.2) (UW xp xp)
 . rw[Ik];exact h
def eO:FS:=λls k4=>∃p q:Rat,ls=[.d (Rh p),.d (Rh q)]/\RB 400000 p/\RB 400000 q/\k4 (.d (.bl (decide (p<q)))) ls
def Aq:W Fl:=(bu (ay uw (ay bK (ay aM (ak 0) (wC (.int 0))) (ay aM (ak 1) (wC (.int 1)))) (ay bK (ay aM (ak 1) (wC (.int 0))) (ay aM (ak 0) (wC (.int 1))))))
theorem EN:∀ls k4,ls.length=2->eO ls k4->Aq (ls++List.replicate 0 .un) (aY ls k4):=by rintro ls k4 - ⟨p,q,rfl,hp,hq,h⟩;unfold Aq;walk_at "w";refine⟨hp.bn xp,hq.bd xp,hq.bn xp,hp.bd xp,_,aj (aj aP),?_⟩;rw[MJ];exact h
def qo:FS:=λls k4=>∃p q:Rat,ls=[.d (Rh p),.d (Rh q)]/\RB 400000 p/\RB 400000 q/\k4 (.d (Rh (if p<q then q else p))) ls
def tT:W Fl:=(bu (Dm (aN (aI eO (aq (ak 0) (aq (ak 1) aH)))) (ak 1) (ak 0)))
theorem Ar:∀ls k4,ls.length=2->qo ls k4->tT (ls++List.replicate 0 .un) (aY ls k4):=by
 rintro ls k4 - ⟨p,q,rfl,hp,hq,h⟩;unfold tT;walk_at "w";refine⟨p,q,rfl,hp,hq,?_⟩;walk_at "w";split
 . rename_i hl;rw[if_pos hl]at h;exact⟨_,aj (aj aP),h⟩
 . rename_i hl;rw[if_neg hl]at h;exact⟨_,aj (aj aP),h⟩
def tU:FS:=λls k4=>∃p q:Rat,ls=[.d (Rh p),.d (Rh q)]/\RB 400000 p/\RB 400000 q/\k4 (.d (Rh (if q<p then q else p))) ls
def wJ:W Fl:=(bu (Dm (aN (aI eO (aq (ak 1) (aq (ak 0) aH)))) (ak 1) (ak 0)))
theorem CB:∀ls k4,ls.length=2->tU ls k4->wJ (ls++List.replicate 0 .un) (aY ls k4):=by
 rintro ls k4 - ⟨p,q,rfl,hp,hq,h⟩;unfold wJ;walk_at "w";refine⟨q,p,rfl,hq,hp,?_⟩;walk_at "w";split
 . rename_i hl;rw[if_pos hl]at h;exact⟨_,aj (aj aP),h⟩
 . rename_i hl;rw[if_neg hl]at h;exact⟨_,aj (aj aP),h⟩
noncomputable def Uu(a:RJ):Nat:=max a.one a.other
def cQ:FS:=λls k4=>∃(R:aQ)(k:Nat)(hk:k<R.asks.length),ls=[.d (aJ R),.d (.int k)]/\k4 (.d (.int (Sb R.asks[k]))) ls
def iO:W Fl:=(bu (aZ zv (aq (ay aM (ay aM (ay aM (ak 0) (wC (.int 1))) (ak 1)) (wC (.int 1))) (aq (ay aM (ay aM (ay aM (ak 0) (wC (.int 1))) (ak 1)) (wC (.int 2))) aH))))
theorem rE:∀ls k4,ls.length=2->cQ ls k4->iO (ls++List.replicate 0 .un) (aY ls k4):=by
 rintro ls k4 - ⟨R,k,hk,rfl,h⟩;unfold iO;walk_at "w";refine⟨_,a7 hk,?_⟩;walk_at "w";refine⟨_,a7 hk,?_⟩;walk_at "w"
 have e:(if((R.asks[k].other:Nat):Int)<(R.asks[k].one:Int)then((R.asks[k].other:Nat):Int)else(R.asks[k].one:Int))=((Sb R.asks[k]:Nat):Int):=by unfold Sb;split<;>omega
 first|rw[e] | skip
 exact⟨_,aj (aj aP),h⟩
def dN:FS:=λls k4=>∃(R:aQ)(k:Nat)(hk:k<R.asks.length),ls=[.d (aJ R),.d (.int k)]/\k4 (.d (.int ((max R.asks[k].one R.asks[k].other:Nat):Int))) ls
def hU:W Fl:=(bu (aZ Ds (aq (ay aM (ay aM (ay aM (ak 0) (wC (.int 1))) (ak 1)) (wC (.int 1))) (aq (ay aM (ay aM (ay aM (ak 0) (wC (.int 1))) (ak 1)) (wC (.int 2))) aH))))
theorem qq:∀ls k4,ls.length=2->dN ls k4->hU (ls++List.replicate 0 .un) (aY ls k4):=by
 rintro ls k4 - ⟨R,k,hk,rfl,h⟩;unfold hU;walk_at "w";refine⟨_,a7 hk,?_⟩;walk_at "w";refine⟨_,a7 hk,?_⟩;walk_at "w"
 have e:(if((R.asks[k].other:Nat):Int) > (R.asks[k].one:Int)then((R.asks[k].other:Nat):Int)else(R.asks[k].one:Int))=((max R.asks[k].one R.asks[k].other:Nat):Int):=by split<;>omega
 first|rw[e] | skip
 exact⟨_,aj (aj aP),h⟩
noncomputable def yH(a b:RJ):Bool:=decide (min a.one a.other<min b.one b.other/\min b.one b.other<max a.one a.other/\max a.one a.other<max b.one b.other) ||decide (min b.one b.other<min a.one a.other/\min a.one a.other<max b.one b.other/\max b.one b.other<max a.one a.other)
def n8:FS:=λls k4=>∃(R:aQ)(k l:Nat)(hk:k<R.asks.length)(hl:l<R.asks.length),ls=[.d (aJ R),.d (.int k),.d (.int l)]/\k4 (.d (.bl (yH R.asks[k] R.asks[l]))) ls
def qr:W Fl:=(aW (bz 3 (bB (aI cQ (aq (ak 0) (aq (ak 1) aH)))))
  (aW (bz 4 (bB (aI dN (aq (ak 0) (aq (ak 1) aH)))))
  (aW (bz 5 (bB (aI cQ (aq (ak 0) (aq (ak 2) aH)))))
  (aW (bz 6 (bB (aI dN (aq (ak 0) (aq (ak 2) aH)))))
  (bu (NS (vT (ak 3) [(uw,(ak 5)),(uw,(ak 4)),(uw,(ak 6))]) (vT (ak 5) [(uw,(ak 3)),(uw,(ak 6)),(uw,(ak 4))])))))))
theorem Hl(a b:RJ){A B C D':Int}(hA:A=((min a.one a.other:Nat):Int))(hB:B=((min b.one b.other:Nat):Int))(hC:C=((max a.one a.other:Nat):Int))(hD:D'=((max b.one b.other:Nat):Int)):yH a b=(decide (A<B/\B<C/\C<D') ||decide (B<A/\A<D'/\D' < C)):=by subst hA hB hC hD;unfold yH;simp only[Int.ofNat_lt]
theorem yI:∀ls k4,ls.length=3->n8 ls k4->qr (ls++List.replicate 4 .un) (aY ls k4):=by
 rintro ls k4 - ⟨R,k,l,hk,hl,rfl,h⟩;unfold qr;walk_at "w";refine⟨R,k,hk,rfl,?_⟩;walk_at "w";refine⟨R,k,hk,rfl,?_⟩;walk_at "w";refine⟨R,l,hl,rfl,?_⟩;walk_at "w";refine⟨R,l,hl,rfl,?_⟩;walk_at "w";have Qd:∀b:Bool,b=yH R.asks[k] R.asks[l]->∀x3 x4 x5 x6:L,aY [.d (aJ R),.d (.int k),.d (.int l)] k4 (.rt (.d (.bl b))) [.d (aJ R),.d (.int k),.d (.int l),x3,x4,x5,x6]:=λb hb x3 x4 x5 x6=>by subst hb;exact⟨_,aj (aj (aj aP)),h⟩
 have ec:=Hl R.asks[k] R.asks[l] (A:=(Sb R.asks[k]:Int)) (B:=(Sb R.asks[l]:Int)) rfl rfl rfl rfl;generalize hA:((Sb R.asks[k]:Nat):Int)=A at *;generalize hB:((Sb R.asks[l]:Nat):Int)=B at *;generalize hC:((max R.asks[k].one R.asks[k].other:Nat):Int)=C at *;generalize hD:((max R.asks[l].one R.asks[l].other:Nat):Int)=D' at *
 by_cases c1:A<B<;>by_cases c2:B<C<;>by_cases c3:C<D'<;>by_cases c4:B<A<;>by_cases c5:A<D'<;>by_cases c6:D' < C <;>
  simp only[c1,c2,c3,c4,c5,c6,Ww,Wv,ite_true,ite_false,decide_true,decide_false,AR,V2]<;>refine Qd _ ?_ _ _ _ _<;>rw[ec]<;>simp only[c1,c2,c3,c4,c5,c6]<;>decide
noncomputable def KJ(R:aQ)(ps:List Rat)(k:Nat):Bool:=decide (0<ps.getD k 0) && decide (ps.getD k 0<R.sz k)
noncomputable def eQ(R:aQ)(ps:List Rat):List Nat:=(List.range ps.length).filter (KJ R ps)
def cb:FS:=λls k4=>∃(R:aQ)(ps:List Rat)(c:Nat),ls=[.d (aJ R),.d (.lst (ps.map Rh))]/\R.Ok/\ps.length=R.asks.length/\(∀p∈ps,RB c p)/\c<=400000/\∀a,k4 (.own a ((eQ R ps).map λ(k:Nat)=>D.int (k:Int))) ls
def o7:W L:=(ak 0)
def n9:W Fl:=(bu (kL 2 [0] (xO (ak 1)) (eY [0,1]) (FQ (aN (aI eO (aq (wC (.tup [(.int 0),(.int 1)])) (aq (ak 1) aH)))) (aN (aI eO (aq (ak 1) (aq (ay aM (ay aM (ay aM (ak 2) (wC (.int 1))) (ak 0)) (wC (.int 3))) aH))))) o7))
theorem EO{α:Type}{e1 e2:α->D}{p:α->Bool}{caps:Ev}{ti:W Bool}{te:W L}{k:List D->Ev->Prop}{g:α->D}(as:List α)(acc:List D)(l m:L)
  (h1:∀a∈as,∀Q:Bool->Ev->Prop,Q (p a) (.d (e1 a)::.d (e2 a)::caps)->ti (.d (e1 a)::.d (e2 a)::caps) Q)
  (h2:∀a∈as,p a=true->∀Q:L->Ev->Prop,Q (.d (g a)) (.d (e1 a)::.d (e2 a)::caps)->te (.d (e1 a)::.d (e2 a)::caps) Q)
  (hk:∀l m,k (acc++(as.filter p).map g) (l::m::caps)):eI (eY [0,1]) ti te (as.map λa=>D.tup [e1 a,e2 a]) (l::m::caps) acc k:=by
 induction as generalizing acc l m with
 |nil=>simpa[eI]using hk l m
 | cons a as ih =>
  rw[Ve];unfold eI;rw[yc];refine h1 a p4 _ ?_
  cases hp:p a with
  | false =>
   rw[if_neg (by decide)];refine ih acc _ _ (λb hb=>h1 b (gV _ hb)) (λb hb=>h2 b (gV _ hb)) λl m=>?_;have:=hk l m;rw[VW,if_neg (by rw[hp];decide)]at this;exact this
  | true =>
   rw[if_pos rfl];refine h2 a p4 hp _ ?_;refine ih _ _ _ (λb hb=>h1 b (gV _ hb)) (λb hb=>h2 b (gV _ hb)) λl m=>?_;have:=hk l m;rw[VW,if_pos hp,Ve]at this;rw[Vs];exact this
theorem wK:∀ls k4,ls.length=2->cb ls k4->n9 (ls++List.replicate 0 .un) (aY ls k4):=by
 rintro ls k4 - ⟨R,ps,c,rfl,hR,hl,hb,hc,h⟩;unfold n9;walk_at "w";rw[Bp];refine⟨by rw[UN,Vc,hl];exact UT hR.few xp,?_⟩;refine EO (p:=KJ R ps) (g:=λ(k:Nat)=>D.int (k:Int)) _ _ _ _ (λk hk Q hq=>?_) (λk hk hp Q hq=>?_) λl m=>?_
 .
  have hk':k<ps.length:=by simpa using hk
  have hb':=hb _ (UO hk');rw[<- p8 hk']at hb';walk_at "w";refine⟨0,_,rfl,RB.zero.mono xp,hb'.mono hc,?_⟩;walk_at "w";unfold KJ at hq;by_cases h0:0<ps.getD k 0
  . rw[if_pos h0];refine⟨_,a7 xL,?_⟩;walk_at "w";refine⟨_,_,rfl,hb'.mono hc,(hR.rb (UO _)).mono xp,?_⟩;walk_at "w";rw[Cq xL]at hq;simpa only[h0,decide_true,VR]using hq
  . rw[if_neg h0];simpa only[h0,decide_false,Wg]using hq
 . unfold o7;walk_at "w";exact hq
 . intro a;walk_at "w";exact⟨_,aj (aj aP),h a⟩
def a8:FS:=λls k4=>∃(R:aQ)(ks:List Nat),ls=[.d (aJ R),.d (.lst (ks.map λ(k:Nat)=>D.int (k:Int)))]/\ks.length<=20/\(∀k∈ks,k<R.asks.length)/\k4 (.d (z5 (R6 (R5 R) ks))) ls
def bt:W Fl:=(QZ (nD (aN (aI n8 (aq (ak 0) (aq (ak 3) (aq (ak 4) aH)))))) (bu (ju (aq (ak 3) (aq (ak 4) aH)))) bA)
def e8:W Fl:=(qM (uv (HY (ak 1) (some (ay dO (ak 2) (wC (.int 1)))) none)) (bj 4) bt)
def dA:W Fl:=(aW (qM (xO (ak 1)) (eY [2,3]) e8)
  (bu (wC .non)))
theorem yJ{R:aQ}{X:D}{x2:L}{k:Nat}(hk:k<R.asks.length){Q:Fl->Ev->Prop}:∀(ls:List Nat)(x4:L),(∀l∈ls,l<R.asks.length) ->
  (∀l,ls.find? (λl=>!R5 R k l)=some l->∀Z,u7 Z [.d (aJ R),.d X] [.d (aJ R),.d X]->Q (.rt (.d (.tup [.int (k:Int),.int (l:Int)]))) Z)->(ls.find? (λl=>!R5 R k l)=none->∀x4,Q .nx [.d (aJ R),.d X,x2,.d (.int (k:Int)),x4]) ->
  cu (bj 4) bt (ls.map λ(k:Nat)=>D.int (k:Int)) [.d (aJ R),.d X,x2,.d (.int (k:Int)),x4] Q
 |[],x4,_,_,h2=>h2 rfl x4
 | l::ls,x4,hl,h1,h2=>by
  have hl0:=hl l p4;show cu (bj 4) bt (D.int (l:Int)::ls.map λ(k:Nat)=>D.int (k:Int)) _ Q;unfold cu;show bt [.d (aJ R),.d X,x2,.d (.int (k:Int)),.d (.int (l:Int))] _;unfold bt;walk_at "w";refine⟨R,k,l,hk,hl0,rfl,?_⟩;have ec:yH R.asks[k] R.asks[l]=R5 R k l:=by unfold R5;rw[c7 hk,c7 hl0];rfl
  walk_at "w";rw[ec]
  cases e:R5 R k l with
  | false =>
   walk_at "w";exact⟨xp,h1 l (by rw[List.find?_cons,e];rfl) _ (aj (aj aP))⟩
  | true =>
   walk_at "w";exact yJ hk ls _ (λm hm=>hl m (gV _ hm)) (λm hm=>h1 m (by rw[List.find?_cons,e];exact hm)) (λhm=>h2 (by rw[List.find?_cons,e];exact hm))
theorem Hm{cr:Nat->Nat->Bool}{ks:List Nat}{j:Nat}(h:j<ks.length):R6 cr (ks.drop j)=match (ks.drop (j+1)).find? (λl=>!cr ks[j] l)with
  |some l=>some (ks[j],l)
  |none=>R6 cr (ks.drop (j+1)):=by
 rw[Vi h];rfl
theorem kE:∀ls k4,ls.length=2->a8 ls k4->dA (ls++List.replicate 3 .un) (aY ls k4):=by
 rintro ls k4 - ⟨R,ks,rfl,h20,hks,h⟩;unfold dA;walk_at "w";refine cF _ (λj Z=>(∃x2 x3 x4,Z=[.d (aJ R),.d (.lst (ks.map λ(k:Nat)=>D.int (k:Int))),x2,x3,x4])/\R6 (R5 R) (ks.drop j)=R6 (R5 R) ks) _ ⟨⟨_,_,_,rfl⟩,rfl⟩ ?_ ?_
 .
  rintro j x Z hj ⟨⟨x2,x3,x4,rfl⟩,hf⟩ Q h1 h2 h3 h4;have hj':j<ks.length:=by have:=(k5.mp hj).1;simpa[fh]using this
  have ex:x=.tup [.int (j:Int),.int (ks[j]:Int)]:=by
   have:(fh (ks.map λ(k:Nat)=>D.int (k:Int)))[j]?=some (.tup [.int (j:Int),.int (ks[j]:Int)]):=by simp[fh,hj']
   rw[this]at hj;exact(U6 hj).symm
  subst ex;unfold e8;walk_at "w";rw[show(j:Int)+1=((j+1:Nat):Int) by omega,GA,GI (show j+1<=ks.length by omega)];rw[Hm hj']at hf;refine λ_=>yJ (hks _ (UO hj')) _ _ (λl hl=>hks l (List.mem_of_mem_drop hl)) (λl e Z b=>h4 _ _ ?_) λe x4=>h1 _ ⟨⟨_,_,_,rfl⟩,?_⟩
  . rw[e]at hf;rw[<- hf]at h;exact⟨_,b,h⟩
  . rw[e]at hf;exact hf
 .
  rintro Z ⟨⟨x2,x3,x4,rfl⟩,hf⟩;have e:ks.drop (fh (ks.map λ(k:Nat)=>D.int (k:Int))).length=[]:=by simp[fh]
  rw[e]at hf;rw[<- hf]at h;exact⟨_,aj (aj aP),h⟩
def lp:FS:=λls k4=>∃d:D,ls=[.d d]/\k4 (.d (.bl (rY d))) ls
def wL:W Fl:=(bu (nF (QY (gN "str") (ak 0)) (ay (pX false) (ak 0) (ju (aq (wC (.str "on")) (aq (wC (.str "back")) aH))))))
theorem CC:∀ls k4,ls.length=1->lp ls k4->wL (ls++List.replicate 0 .un) (aY ls k4):=by
 rintro ls k4 - ⟨d,rfl,h⟩;unfold wL
 cases d with
 | str z =>
  walk_at "w";rw[En];exact⟨xp,rfl,rfl,_,aj aP,h⟩
 | _ =>
  walk_at "w";exact⟨_,aj aP,h⟩
def lq:FS:=λls k4=>∃w:Bool,ls=[.d (.str (dD w))]/\k4 (.d (.str (dD !w))) ls
def oa:W Fl:=(bu (Dm (aN (ay pN (ak 0) (wC (.str "on")))) (wC (.str "back")) (wC (.str "on"))))
theorem wM:∀ls k4,ls.length=1->lq ls k4->oa (ls++List.replicate 0 .un) (aY ls k4):=by
 rintro ls k4 - ⟨w,rfl,h⟩;unfold oa;walk_at "w";cases w
 . exact⟨_,aj aP,h⟩
 . exact⟨_,aj aP,h⟩
def mn:FS:=λls k4=>∃(R:aQ)(k:Nat)(w:Bool)(hk:k<R.asks.length),ls=[.d (aJ R),.d (.int k),.d (.str (dD w))]/\R.Ok/\∀c,k4 (.own c ((zW R.n R.asks[k] w).map λ(t:Nat)=>D.int (t:Int))) ls
def tV:W L:=(ay gX (ay mw (ay mw (ak 1) (wC (.int 1))) (ak 0)) (ak 2))
def tX:W L:=(ay gX (ay dO (ak 1) (ak 0)) (ak 2))
def tY:W Fl:=(bu (kL 1 [4,3] (uC (ay gX (ay mw (ak 4) (ak 5)) (ak 3))) (bj 0) kK tV))
def tZ:W Fl:=(aW (QZ (aN (ay pN (ak 2) (wC (.str "on")))) (bu (kL 1 [4,3] (uC (ay gX (ay mw (ak 5) (ak 4)) (ak 3))) (bj 0) kK tX)) bA)
  tY)
def t5:W Fl:=(aW (bz 5 (ay aM (ay aM (ay aM (ak 0) (wC (.int 1))) (ak 1)) (wC (.int 2))))
  tZ)
def t6:W Fl:=(aW (bz 4 (ay aM (ay aM (ay aM (ak 0) (wC (.int 1))) (ak 1)) (wC (.int 1))))
  t5)
def t7:W Fl:=(aW (bz 3 (bB (aZ cZ (aq (ay aM (ak 0) (wC (.int 0))) aH))))
  t6)
theorem As:∀ls k4,ls.length=3->mn ls k4->t7 (ls++List.replicate 3 .un) (aY ls k4):=by
 rintro ls k4 - ⟨R,k,w,hk,rfl,hR,h⟩;have ha:=hR.ask _ (UO hk);have h1:=ha.one;have h2:=ha.other;have hlo:=hR.lo;have hhi:=hR.hi;unfold t7;walk_at "w";unfold t6;walk_at "w";refine⟨_,a7 hk,?_⟩;walk_at "w";unfold t5;walk_at "w";refine⟨_,a7 hk,?_⟩;walk_at "w";unfold tZ;walk_at "w";have f1:=Ea h1 h2;have f2:=Ea h2 h1;have b1:=WH (R.asks[k].other+R.n-R.asks[k].one) (y:=R.n) xL;have b2:=WH (R.asks[k].one+R.n-R.asks[k].other) (y:=R.n) xL;split
 .
  rename_i hw;subst hw;rw[f1];refine⟨xL,⟨xL,xL⟩,?_⟩;rw[me,VL];refine⟨by rw[UN,Vc];exact UT (show _<=12 by omega) xp,?_⟩;refine oU (h:=λs=>D.int (((R.asks[k].one+s) % R.n:Nat):Int)) _ _ _ (λs hs Q q=>?_) λl'=>?_
  . unfold tX;walk_at "w";refine⟨xL,?_⟩;rw[Bm];exact q
  . walk_at "w";intro c;refine⟨_,aj (aj (aj aP)),?_⟩;have:=h c;simp only[zW,RL,Ww,Vn]at this;exact this
 .
  rename_i hw;have hw:w=false:=by simpa using hw
  subst hw;unfold tY;walk_at "w";rw[f2];refine⟨xL,⟨xL,xL⟩,?_⟩;rw[me,VL];refine⟨by rw[UN,Vc];exact UT (show _<=12 by omega) xp,?_⟩;refine oU (h:=λs=>D.int (((R.asks[k].one+R.n-1-s) % R.n:Nat):Int)) _ _ _ (λs hs Q q=>?_) λl'=>?_
  . unfold tV;walk_at "w";refine⟨xL,?_⟩;have hs:=Vd.mp hs;rw[GT xL xL];exact q
  . walk_at "w";intro c;refine⟨_,aj (aj (aj aP)),?_⟩;have:=h c;simp only[zW,tE,V2,Wv,Vn]at this;exact this
def jP:FS:=λls k4=>∃(R:aQ)(d:D),ls=[.d (aJ R),.d d]/\(∀xs,d=.lst xs->xs.length<=99)/\k4 (.d (.bl (Iy R.asks.length d))) ls
def qW:W L:=(aI lp (aq (ak 0) aH))
def qt:W Fl:=(aW (QZ (QW (nD (aN (QY (gN "list") (ak 1)))) (aN (ay uE (aZ cZ (aq (ak 1) aH)) (aZ cZ (aq (ay aM (ak 0) (wC (.int 1))) aH))))) (bu (wC (.bl false))) bA)
  (bu (aZ Ml (aq (bB (kL 1 [] (uv (ak 1)) (bj 0) kK qW)) aH))))
theorem Na(xs:List D):(xs.map λx=>rY x).all id=xs.all rY:=by rw[List.all_map];rfl
theorem yK:∀ls k4,ls.length=2->jP ls k4->qt (ls++List.replicate 0 .un) (aY ls k4):=by
 rintro ls k4 - ⟨R,d,rfl,hl,h⟩;have bk:∀b:Bool,k4 (.d (.bl b)) [.d (aJ R),.d d]->aY [.d (aJ R),.d d] k4 (.rt (.d (.bl b))) [.d (aJ R),.d d]:=λb h=>⟨_,aj (aj aP),h⟩;have h:=bk _ h;unfold qt;by_cases ht:∃xs,d=.lst xs
 .
  obtain⟨xs,rfl⟩:=ht;have hl:=hl xs rfl;unfold Iy at h;walk_at "w";by_cases e:xs.length=R.asks.length
  .
   rw[if_neg (by omega)];refine⟨Ei hl,Eo (h:=λx=>D.bl (rY x)) xs _ _ (λx hx Q hQ=>?_) λl c=>?_⟩
   . unfold qW;walk_at "w";exact⟨x,rfl,hQ⟩
   rw[VS];refine⟨xs.map λx=>rY x,by rw[Vn];rfl,?_⟩;walk_at "w";rw[Na];simp only[e,decide_true,VR]at h;exact h
  . rw[if_pos (by omega)];simp only[e,decide_false,Wg]at h;exact h
 .
  have ei:oG "list" d=false:=by
   cases d<;>first
    |exact absurd ⟨_,rfl⟩ ht
    |rfl
  have ea:Iy R.asks.length d=false:=by
   cases d<;>first
    |exact absurd ⟨_,rfl⟩ ht
    |rfl
  rw[ea]at h;walk_at "w";rw[ei];exact h
def fP:FS:=λls k4=>∃(p am:Rat)(w:Bool),ls=[.d (Rh p),.d (.str (dD w)),.d (Rh am)]/\RB 4400 p/\RB 4400 am/\k4 (.d (Rh (RZ p w am))) ls
def jQ:W Fl:=(bu (Dm (aN (ay pN (ak 1) (wC (.str "on")))) (aI ll (aq (ak 0) (aq (ak 2) aH))) (aI fO (aq (ak 0) (aq (ak 2) aH)))))
theorem t8:∀ls k4,ls.length=3->fP ls k4->jQ (ls++List.replicate 0 .un) (aY ls k4):=by
 rintro ls k4 - ⟨p,am,w,rfl,hp,ha,h⟩;unfold jQ;unfold RZ at h;walk_at "w"
 cases w with
 | true =>
  walk_at "w";exact Hj hp ha ⟨_,aj (aj (aj aP)),h⟩
 | false =>
  walk_at "w";exact ja hp ha ⟨_,aj (aj (aj aP)),h⟩
def iA:FS:=λls k4=>∃(ps:List Rat)(s:eB),ls=[.d (.lst (ps.map Rh)),.d (RW s)]/\ps.length<=20/\s.k<ps.length/\s.l<ps.length/\s.k≠s.l/\(∀p∈ps,RB 4000 p)/\RB 4000 s.am/\∀a,k4 (.own a ((R0 ps s).map Rh)) ls
def oe:W Fl:=(aW (bz 2 (aZ sM (aq (ak 0) aH)))
  (aW (sN 2 (ay aM (ak 1) (wC (.int 0))) (aI fP (aq (eZ 2 (y6 2 (ay aM (ak 1) (wC (.int 0)))) (ay aM (ak 2) (ay aM (ak 1) (wC (.int 0))))) (aq (ay aM (ak 1) (wC (.int 1))) (aq (ay aM (ak 1) (wC (.int 4))) aH)))))
  (aW (sN 2 (ay aM (ak 1) (wC (.int 2))) (aI fP (aq (eZ 2 (y6 2 (ay aM (ak 1) (wC (.int 2)))) (ay aM (ak 2) (ay aM (ak 1) (wC (.int 2))))) (aq (ay aM (ak 1) (wC (.int 3))) (aq (ay aM (ak 1) (wC (.int 4))) aH)))))
  (bu (nC 2)))))
theorem ER{n k:Nat}(h:k<n):Qy n (k:Int)=some k:=by unfold Qy;rw[if_pos (by omega),if_pos (by omega)];simp
theorem wN:∀ls k4,ls.length=2->iA ls k4->oe (ls++List.replicate 1 .un) (aY ls k4):=by
 rintro ls k4 - ⟨ps,s,rfl,h20,hk,hl,hkl,hp,ha,h⟩;unfold oe;simp only[RW];walk_at "w";have r1:=hp _ (UO hk);have r2:=hp _ (UO hl);refine λa=>⟨_,a7 hk,ps[s.k],s.am,s.kw,rfl,r1.mono xp,ha.mono xp,?_⟩;walk_at "w";have hl':s.l<(ps.set s.k (RZ ps[s.k] s.kw s.am)).length:=by rw[VP];exact hl
 have e1:(ps.set s.k (RZ ps[s.k] s.kw s.am))[s.l]=ps[s.l]:=by rw[List.getElem_set_ne hkl]
 refine⟨s.k,ER hk,?_⟩;rw[<- List.map_set];refine⟨_,a7 hl',_,s.am,s.lw,rfl,by rw[e1];exact r2.mono xp,ha.mono xp,?_⟩;walk_at "w";refine⟨s.l,ER (by simpa using hl),_,aj (aj aP),?_⟩;have h:=h a;unfold R0 at h;rw[bM hk,bM hl',List.map_set]at h;exact h
def eR:FS:=λls k4=>∃(R:aQ)(k l:Nat)(kw lw:Bool)(hk:k<R.asks.length)(hl:l<R.asks.length),ls=[.d (aJ R),.d (.int (k:Int)),.d (.str (dD kw)),.d (.int (l:Int)),.d (.str (dD lw))]/\R.Ok/\k4 (.d (.bl (ky R.n R.asks[k] kw R.asks[l] lw))) ls
def ki:W L:=(ay (pX false) (ak 0) (ak 1))
def iP:W Fl:=(aW (bz 5 (bB (aI mn (aq (ak 0) (aq (ak 3) (aq (ak 4) aH))))))
  (bu (Dk (aN (aZ Mm (aq (bB (kL 1 [5] (uv (aI mn (aq (ak 0) (aq (ak 1) (aq (ak 2) aH))))) (bj 0) kK ki)) aH))))))
theorem rF:∀ls k4,ls.length=5->eR ls k4->iP (ls++List.replicate 1 .un) (aY ls k4):=by
 rintro ls k4 - ⟨R,k,l,kw,lw,hk,hl,rfl,hR,h⟩;unfold iP;walk_at "w";refine⟨R,l,lw,hl,rfl,hR,λc=>?_⟩;walk_at "w";refine⟨R,k,kw,hk,rfl,hR,λc2=>?_⟩;walk_at "w";have b0:=Ki (hR.ask _ (UO hk)) kw;have hhi:=hR.hi;refine⟨Ei xL,oU (h:=λt=>.bl (decide (t∈zW R.n R.asks[l] lw))) (zW R.n R.asks[k] kw) [] _ (λt hm Q hq=>?_) λl' a0=>?_⟩
 . unfold ki;walk_at "w";refine⟨rfl,by simp[pW],?_⟩;rw[oX];exact hq
 . rw[VS];refine⟨(zW R.n R.asks[k] kw).map λt=>decide (t∈zW R.n R.asks[l] lw),by rw[Vn];rfl,?_⟩;walk_at "w";refine⟨_,aj (aj (aj (aj (aj aP)))),?_⟩;unfold ky at h;simpa[List.any_map]using h
def dB:FS:=λls k4=>∃(d:D)(n:Nat),ls=[.d d,.d (.int (n:Int))]/\k4 (.d (.bl (rq n d))) ls
def cR:W Fl:=(bu (nF (aI lp (aq (ay aM (ak 0) (wC (.int 1))) aH)) (nF (aI lp (aq (ay aM (ak 0) (wC (.int 3))) aH)) (aI n6 (aq (ay aM (ak 0) (wC (.int 4))) aH)))))
def cS:W Fl:=(aW (QZ (QW (nD (aN (aI cH (aq (ay aM (ak 0) (wC (.int 0))) (aq (ak 1) aH))))) (nD (aN (aI cH (aq (ay aM (ak 0) (wC (.int 2))) (aq (ak 1) aH)))))) (bu (wC (.bl false))) bA)
  cR)
def dR:W Fl:=(aW (QZ (QW (nD (aN (QY (gN "tuple") (ak 0)))) (aN (ay uE (aZ cZ (aq (ak 0) aH)) (wC (.int 5))))) (bu (wC (.bl false))) bA)
  cS)
theorem Nc{a b c d e:D}{z:L}{k4:Fl->Ev->Prop}(h:k4 (.rt (.d (.bl (rY b && (rY d && tF e))))) [.d (.tup [a,b,c,d,e]),z]):cR [.d (.tup [a,b,c,d,e]),z] k4:=by
 unfold cR;walk_at "w";refine⟨_,rfl,?_⟩
 cases e3:rY b with
 | false =>
  rw[e3]at h;exact h
 | true =>
  rw[e3,VR]at h;refine⟨_,rfl,?_⟩
  cases e4:rY d with
  | false =>
   rw[e4]at h;exact h
  | true =>
   rw[e4,VR]at h;exact⟨_,rfl,h⟩
theorem Nd{a b c d e:D}{n:Nat}{k4:Fl->Ev->Prop}(h:k4 (.rt (.d (.bl (kC a n && (kC c n && (rY b && (rY d && tF e))))))) [.d (.tup [a,b,c,d,e]),.d (.int (n:Int))]):cS [.d (.tup [a,b,c,d,e]),.d (.int (n:Int))] k4:=by
 unfold cS;walk_at "w";refine⟨_,_,rfl,?_⟩
 cases e1:kC a n with
 | false =>
  rw[e1]at h;exact h
 | true =>
  rw[e1,VR]at h;refine⟨_,_,rfl,?_⟩
  cases e2:kC c n with
  | false =>
   rw[e2]at h;exact h
  | true =>
   rw[e2,VR]at h;exact Nc h
theorem lr:∀ls k4,ls.length=2->dB ls k4->dR (ls++List.replicate 0 .un) (aY ls k4):=by
 rintro ls k4 - ⟨d,n,rfl,h⟩;have bk:∀b:Bool,k4 (.d (.bl b)) [.d d,.d (.int (n:Int))]->aY [.d d,.d (.int (n:Int))] k4 (.rt (.d (.bl b))) [.d d,.d (.int (n:Int))]:=λb h=>⟨_,aj (aj aP),h⟩;have h:=bk _ h;unfold dR;by_cases ht:∃xs,d=.tup xs
 .
  obtain⟨xs,rfl⟩:=ht;by_cases h5:xs.length=5
  . obtain⟨a,b,c,d,e,rfl⟩:=OX h5;rw[wj]at h;walk_at "w";exact Nd h
  .
   rw[yr h5]at h;walk_at "w";have:¬((xs.length:Int)=5):=by omega
   simp only[this,not_false_eq_true,decide_true,Ww,ite_true];exact h
 .
  rw[BA (λxs e=>ht ⟨xs,e⟩)]at h
  have ei:oG "tuple" d=false:=by
   cases d<;>first
    |exact absurd ⟨_,rfl⟩ ht
    |rfl
  walk_at "w";rw[ei];exact h
def jR:FS:=λls k4=>∃(R:aQ)(ps:List Rat)(k:Nat)(w:Bool),ls=[.d (aJ R),.d (.lst (ps.map Rh)),.d (.int (k:Int)),.d (.str (dD w))]/\dG R ps/\k<ps.length/\k4 (.d (Rh (RX R ps k w))) ls
def qu:W Fl:=(bu (Dm (aN (ay pN (ak 3) (wC (.str "on")))) (aI fO (aq (ay aM (ay aM (ay aM (ak 0) (wC (.int 1))) (ak 2)) (wC (.int 3))) (aq (ay aM (ak 1) (ak 2)) aH))) (ay aM (ak 1) (ak 2))))
theorem yL:∀ls k4,ls.length=4->jR ls k4->qu (ls++List.replicate 0 .un) (aY ls k4):=by
 rintro ls k4 - ⟨R,ps,k,w,rfl,hS,hk,h⟩;have hk':k<R.asks.length:=by rw[<- hS.len];exact hk
 have r1:=hS.sz_rb hk;have r2:=hS.rb hk;rw[iL hk']at r1;rw[bM hk]at r2;unfold RX at h;rw[iL hk',bM hk]at h;unfold qu;walk_at "w"
 cases w with
 | true =>
  walk_at "w";refine⟨_,a7 hk',?_⟩;walk_at "w";refine⟨_,a7 hk,?_⟩;walk_at "w";exact ja (r1.mono xp) (r2.mono xp) ⟨_,aj (aj (aj (aj aP))),h⟩
 | false =>
  walk_at "w";exact⟨_,a7 hk,_,aj (aj (aj (aj aP))),h⟩
def iB:FS:=λls k4=>∃(R:aQ)(ps:List Rat)(k l:Nat)(kw lw:Bool)(more:List D),ls=[.d (aJ R),.d (.lst (ps.map Rh)),.d (.tup (.int (k:Int)::.str (dD kw)::.int (l:Int)::.str (dD lw)::more))]/\dG R ps/\k<ps.length/\l<ps.length/\k4 (.d (Rh (RY R ps k kw l lw))) ls
def og:W Fl:=(bu (aI tU (aq (bB (aI jR (aq (ak 0) (aq (ak 1) (aq (ay aM (ak 2) (wC (.int 0))) (aq (ay aM (ak 2) (wC (.int 1))) aH)))))) (aq (bB (aI jR (aq (ak 0) (aq (ak 1) (aq (ay aM (ak 2) (wC (.int 2))) (aq (ay aM (ak 2) (wC (.int 3))) aH)))))) aH))))
theorem wO:∀ls k4,ls.length=3->iB ls k4->og (ls++List.replicate 0 .un) (aY ls k4):=by rintro ls k4 - ⟨R,ps,k,l,kw,lw,more,rfl,hS,hk,hl,h⟩;unfold og;walk_at "w";refine⟨R,ps,k,kw,rfl,hS,hk,?_⟩;walk_at "w";refine⟨R,ps,l,lw,rfl,hS,hl,?_⟩;walk_at "w";exact⟨_,_,rfl,(tI hS hk kw).mono xp,(tI hS hl lw).mono xp,_,aj (aj (aj aP)),h⟩
noncomputable def PV(R:aQ)(ps:List Rat)(s:eB):Bool:=!decide (s.k=s.l) && (ky R.n (ba R s.k) s.kw (ba R s.l) s.lw && (decide (0<s.am) && !decide (RY R ps s.k s.kw s.l s.lw<s.am)))
def oh:FS:=λls k4=>∃(R:aQ)(ps:List Rat)(d:D),ls=[.d (aJ R),.d (.lst (ps.map Rh)),.d d]/\dG R ps/\(∀s,rZ d=some s->s.k<ps.length->s.l<ps.length->RB 400000 s.am)/\k4 (.d (.bl (R9 R ps d))) ls
def qv:W Fl:=(aW (QZ (QW (nD (aN (aI dB (aq (ak 2) (aq (bB (aZ cZ (aq (ay aM (ak 0) (wC (.int 1))) aH))) aH))))) (aN (ay pN (ay aM (ak 2) (wC (.int 0))) (ay aM (ak 2) (wC (.int 2)))))) (bu (wC (.bl false))) bA)
  (aW (QZ (nD (aN (aI eR (aq (ak 0) (aq (ay aM (ak 2) (wC (.int 0))) (aq (ay aM (ak 2) (wC (.int 1))) (aq (ay aM (ak 2) (wC (.int 2))) (aq (ay aM (ak 2) (wC (.int 3))) aH)))))))) (bu (wC (.bl false))) bA)
  (bu (nF (aI eO (aq (wC (.tup [(.int 0),(.int 1)])) (aq (ay aM (ak 2) (wC (.int 4))) aH))) (Dk (aN (aI eO (aq (bB (aI iB (aq (ak 0) (aq (ak 1) (aq (ak 2) aH))))) (aq (ay aM (ak 2) (wC (.int 4))) aH)))))))))
theorem Oz{R:aQ}{ps:List Rat}(h:dG R ps){k l:Nat}(hk:k<ps.length)(hl:l<ps.length)(kw lw:Bool):RB 400000 (RY R ps k kw l lw):=by
 rcases(h.ms hk hl kw lw).2.2.2 with e|e
 . rw[e];exact(tI h hk _).mono xp
 . rw[e];exact(tI h hl _).mono xp
theorem yM:∀ls k4,ls.length=3->oh ls k4->qv (ls++List.replicate 0 .un) (aY ls k4):=by
 rintro ls k4 - ⟨R,ps,d,rfl,hS,ha,h⟩;unfold qv;walk_at "w";refine⟨_,R.asks.length,rfl,?_⟩
 cases ef:rq R.asks.length d with
 | false =>
  have e:R9 R ps d=false:=by
   unfold rq at ef;unfold R9;rw[hS.len];split
   . rename_i s e;rw[e]at ef;have ef:(decide (s.k<R.asks.length) && decide (s.l<R.asks.length))=false:=ef;rw[<- Bool.and_assoc,ef];rfl
   . rfl
  rw[e]at h;walk_at "w";exact⟨_,aj (aj (aj aP)),h⟩
 |true =>
 obtain⟨s,es,hk',hl'⟩:∃s,rZ d=some s/\s.k<R.asks.length/\s.l<R.asks.length:=by
  unfold rq at ef;split at ef
  . rename_i s e;rw[UQ,UP,UP]at ef;exact⟨s,e,ef.1,ef.2⟩
  . cases ef
 have hk:s.k<ps.length:=by rw[hS.len];exact hk'
 have hl:s.l<ps.length:=by rw[hS.len];exact hl'
 have ha2:=ha s es hk hl;have:=z7 es;subst this;rw[BB hk hl]at h;unfold Rc at h;rw[c7 hk',c7 hl']at h;simp only[RW]at h ⊢;walk_at "w";by_cases e:s.k=s.l
 . rw[if_pos (by omega)];rw[UX e]at h;exact⟨_,aj (aj (aj aP)),h⟩
 rw[if_neg (by omega)];rw[UM e]at h;refine⟨R,s.k,s.l,s.kw,s.lw,hk',hl',rfl,hS.ok,?_⟩;walk_at "w"
 cases e1:ky R.n R.asks[s.k] s.kw R.asks[s.l] s.lw with
 | false =>
  rw[e1]at h;walk_at "w";exact⟨_,aj (aj (aj aP)),h⟩
 | true =>
  rw[e1]at h;walk_at "w";refine⟨0,s.am,rfl,RB.zero.mono xp,ha2,?_⟩;walk_at "w";by_cases e2:0<s.am
  . rw[UX e2]at h;rw[if_pos e2];refine⟨R,ps,s.k,s.l,s.kw,s.lw,_,rfl,hS,hk,hl,?_⟩;walk_at "w";refine⟨_,s.am,rfl,Oz hS hk hl _ _,ha2,?_⟩;walk_at "w";refine⟨_,aj (aj (aj aP)),?_⟩;simpa using h
  . rw[UM e2]at h;rw[if_neg e2];exact⟨_,aj (aj (aj aP)),h⟩
def jb:FS:=λls k4=>∃(R:aQ)(ps:List Rat)(ss:List D)(D:Nat),ls=[.d (aJ R),.d (.lst (ps.map Rh)),.d (.lst ss)]/\dG R ps/\ss.length<=99/\(∀d∈ss,∀s,rZ d=some s->RB 4000 s.am/\s.am.den∣D)/\(0<D/\D<2^1500/\(∀a∈R.asks,a.size.den∣D)/\(∀p∈ps,p.den∣D)) /\
 yt R 0 ps ss=none/\∀a,k4 (.own a ((qT R ps ss).map Rh)) ls
def t9:W Fl:=(aW (QZ (nD (aN (aI oh (aq (ak 0) (aq (ak 3) (aq (ak 5) aH)))))) Dn bA)
  (bz 3 (aI iA (aq (ak 3) (aq (ak 5) aH)))))
def ua:W Fl:=(aW (QZ (nD (aN (QY (gN "list") (ak 2)))) Dn bA)
  (aW (bz 3 (aZ sM (aq (ak 1) aH)))
  (aW (qM (xO (ak 2)) (eY [4,5]) t9)
  (bu (nC 3)))))
theorem Au:∀ls k4,ls.length=3->jb ls k4->ua (ls++List.replicate 3 .un) (aY ls k4):=by
 rintro ls k4 - ⟨R,ps,ss,D,rfl,hS,h20,hs,⟨d0,d1,da,dp⟩,hbn,h⟩;unfold ua;walk_at "w";refine λa0=>cF _ (λj Z=>∃(qs:List Rat)(a:Addr)(x4 x5:L),Z=[.d (aJ R),.d (.lst (ps.map Rh)),.d (.lst ss),.own a (qs.map Rh),x4,x5]/\Sn R qs D/\qs.length=ps.length/\yt R j qs (ss.drop j)=yt R 0 ps ss/\qT R qs (ss.drop j)=qT R ps ss) _ ⟨ps,_,_,_,rfl,⟨hS,d0,d1,da,dp⟩,rfl,rfl,rfl⟩ ?_ ?_
 .
  rintro j x Z hj ⟨qs,a,x4,x5,rfl,hD,hl,hb,hr⟩ Q h1 h2 h3' h4;obtain⟨hj',ex⟩:=Ha hj;subst ex;have hm:=UO hj';have s3:=hs _ hm;rw[Ez hj']at hb;have hr':qT R (Sm qs ss[j]) (ss.drop (j+1))=qT R ps ss:=by rw[<- hr,Vi hj'];rfl
  unfold t9;walk_at "w";refine⟨R,qs,ss[j],rfl,hD.ok,λs e _ _=>(s3 s e).1.mono xp,?_⟩;walk_at "w"
  cases e:R9 R qs ss[j]with
  | false =>
   rw[e,if_neg (by decide),hbn]at hb;cases hb
  | true =>
   rw[e,if_pos rfl]at hb;obtain⟨s,es,hk,hl',e'⟩:=Iw e;have dd:=Ey hD.ok hk hl' e';have es':rZ ss[j]=some s:=by rw[es];exact kR s
   obtain⟨s4,s5⟩:=s3 s es';have est:Sm qs ss[j]=R0 qs s:=by unfold Sm;rw[es']
   rw[est]at hb hr';rw[es];walk_at "w";refine⟨qs,s,rfl,by rw[hD.ok.len];exact hD.ok.ok.few,hk,hl',dd.kl,BH hD.ok,s4,λc=>?_⟩;walk_at "w";exact h1 _ ⟨_,_,_,_,rfl,hD.slid dd s5,by rw[kP];exact hl,hb,hr'⟩
 .
  rintro Z ⟨qs,a,x4,x5,rfl,hD,hl,hb,hr⟩;have e:ss.drop (fh ss).length=[]:=by simp[fh]
  rw[e]at hb hr;walk_at "w";have h:=h a;rw[<- hr]at h;exact⟨_,aj (aj (aj aP)),h⟩
def jS:FS:=λls k4=>∃(R:aQ)(k l:Nat)(hk:k<R.asks.length)(hl:l<R.asks.length),ls=[.d (aJ R),.d (.int (k:Int)),.d (.int (l:Int))]/\R.Ok/\k4 (.d (.tup [.str (dD (bP R.n R.asks[k] R.asks[l]).1),.str (dD (bP R.n R.asks[k] R.asks[l]).2)])) ls
def iQ:W Fl:=(QZ (aN (aI eR (aq (ak 0) (aq (ak 1) (aq (ay aM (ak 3) (wC (.int 0))) (aq (ak 2) (aq (ay aM (ak 3) (wC (.int 1))) aH))))))) (bu (nC 3)) bA)
def lu:W Fl:=(aW (qM (uv (ju (aq (ju (aq (wC (.str "on")) (aq (wC (.str "on")) aH))) (aq (ju (aq (wC (.str "on")) (aq (wC (.str "back")) aH))) (aq (ju (aq (wC (.str "back")) (aq (wC (.str "on")) aH))) aH))))) (bj 3) iQ)
  (bu (ju (aq (wC (.str "back")) (aq (wC (.str "back")) aH)))))
theorem Av{R:aQ}{k l:Nat}(hk:k<R.asks.length)(hl:l<R.asks.length)(hR:R.Ok)(aw bw:Bool){Q:Fl->Ev->Prop}(h1:ky R.n R.asks[k] aw R.asks[l] bw=true->∀Z,u7 Z [.d (aJ R),.d (.int (k:Int)),.d (.int (l:Int))] [.d (aJ R),.d (.int (k:Int)),.d (.int (l:Int))]->Q (.rt (.d (.tup [.str (dD aw),.str (dD bw)]))) Z)
  (h2:ky R.n R.asks[k] aw R.asks[l] bw=false->Q .nx [.d (aJ R),.d (.int (k:Int)),.d (.int (l:Int)),.d (.tup [.str (dD aw),.str (dD bw)])]) :
  iQ [.d (aJ R),.d (.int (k:Int)),.d (.int (l:Int)),.d (.tup [.str (dD aw),.str (dD bw)])] Q:=by
 unfold iQ;walk_at "w";refine⟨R,k,l,aw,bw,hk,hl,rfl,hR,?_⟩;walk_at "w"
 cases e:ky R.n R.asks[k] aw R.asks[l] bw with
 |true=>exact h1 e _ (aj (aj (aj aP)))
 |false=>exact h2 e
theorem uJ:∀ls k4,ls.length=3->jS ls k4->lu (ls++List.replicate 1 .un) (aY ls k4):=by
 rintro ls k4 - ⟨R,k,l,hk,hl,rfl,hR,h⟩;unfold lu;walk_at "w";have e1:Str.ofString "on"=dD true:=rfl;have e2:Str.ofString "back"=dD false:=rfl;rw[e1,e2];refine⟨xp,xp,xp,xp,?_⟩;unfold bP at h;unfold cu;refine Av hk hl hR true true (λe Z b=>?_) λe=>?_
 . rw[if_pos e]at h;exact⟨_,b,h⟩
 rw[if_neg (by simp[e])]at h;unfold cu;refine Av hk hl hR true false (λe Z b=>?_) λe=>?_
 . rw[if_pos e]at h;exact⟨_,b,h⟩
 rw[if_neg (by simp[e])]at h;unfold cu;refine Av hk hl hR false true (λe Z b=>?_) λe=>?_
 . rw[if_pos e]at h;exact⟨_,b,h⟩
 rw[if_neg (by simp[e])]at h;unfold cu;exact⟨xp,_,aj (aj (aj aP)),h⟩
def fF:FS:=λls k4=>∃(R:aQ)(ps:List Rat)(k l:Nat)(hk:k<R.asks.length)(hl:l<R.asks.length),ls=[.d (aJ R),.d (.lst (ps.map Rh)),.d (.int (k:Int)),.d (.int (l:Int))]/\dG R ps/\k4 (.d (RW (R4 R ps k l (bP R.n R.asks[k] R.asks[l])))) ls
def gF:W Fl:=(aW (bz 4 (bB (aI jS (aq (ak 0) (aq (ak 2) (aq (ak 3) aH))))))
  (aW (bz 5 (ju (aq (ak 2) (aq (ay aM (ak 4) (wC (.int 0))) (aq (ak 3) (aq (ay aM (ak 4) (wC (.int 1))) aH))))))
  (bu (ay Ba (ak 5) (ju (aq (bB (aI iB (aq (ak 0) (aq (ak 1) (aq (ak 5) aH))))) aH))))))
theorem o8:∀ls k4,ls.length=4->fF ls k4->gF (ls++List.replicate 2 .un) (aY ls k4):=by rintro ls k4 - ⟨R,ps,k,l,hk,hl,rfl,hS,h⟩;unfold gF;walk_at "w";refine⟨R,k,l,hk,hl,rfl,hS.ok,?_⟩;walk_at "w";refine⟨xp,R,ps,k,l,_,_,[],rfl,hS,by rw[hS.len];exact hk,by rw[hS.len];exact hl,?_⟩;walk_at "w";refine⟨xp,x_,x_,xp,_,aj (aj (aj (aj aP))),h⟩
def jT:FS:=λls k4=>∃(R:aQ)(ps:List Rat),ls=[.d (aJ R),.d (.lst (ps.map Rh))]/\dG R ps/\∀a,k4 (.own a ((kB R 20 ps).map RW)) ls
def mN:W Fl:=(aW (bz 5 (bB (aI fF (aq (ak 0) (aq (ak 2) (aq (ay aM (ak 4) (wC (.int 0))) (aq (ay aM (ak 4) (wC (.int 1))) aH)))))))
  (aW (sF (F0 3 (ak 5)))
  (aW (bz 2 (bB (aI iA (aq (ak 2) (aq (ak 5) aH)))))
  (bz 4 (bB (aI a8 (aq (ak 0) (aq (bB (aI cb (aq (ak 0) (aq (ak 2) aH)))) aH))))))))
def lx:W Fl:=(aW (bz 2 (ak 1))
  (aW (bz 3 (qL aH))
  (aW (bz 4 (bB (aI a8 (aq (ak 0) (aq (bB (aI cb (aq (ak 0) (aq (ak 2) aH)))) aH)))))
  (aW (sI (aN (ay va (ak 4) (wC .non))) mN)
  (bu (nC 3))))))
theorem yN{R:aQ}{ps:List Rat}(h:dG R ps){k4:L->List L->Prop}(q:k4 (.d (z5 (R6 (R5 R) (R8 R ps)))) [.d (aJ R),.d (.lst ((R8 R ps).map λ(k:Nat)=>D.int (k:Int)))]):a8 [.d (aJ R),.d (.lst ((R8 R ps).map λ(k:Nat)=>D.int (k:Int)))] k4:=by refine⟨R,R8 R ps,rfl,?_,λk hk=>by rw[<- h.len];exact(kO hk).1,q⟩;refine UT (VJ _ _) ?_;rw[Vc,h.len];exact h.ok.few
theorem vo{R:aQ}{ps:List Rat}(h:dG R ps){k4:L->List L->Prop}(q:∀a,k4 (.own a ((R8 R ps).map λ(k:Nat)=>D.int (k:Int))) [.d (aJ R),.d (.lst (ps.map Rh))]):cb [.d (aJ R),.d (.lst (ps.map Rh))] k4:=by refine⟨R,ps,1800,rfl,h.ok,h.len,λp hp=>?_,xp,q⟩;obtain⟨i,hi,rfl⟩:=Vu hp;rw[<- bM hi];exact h.rb hi
theorem OA{R:aQ}{ps:List Rat}(h:dG R ps){k l:Nat}(hk:k<ps.length)(hl:l<ps.length)(w:Bool×Bool):RB 4000 (R4 R ps k l w).am:=by
 show RB 4000 (RY R ps k w.1 l w.2);rcases(h.ms hk hl w.1 w.2).2.2.2 with e|e
 . rw[e];exact(tI h hk _).mono xp
 . rw[e];exact(tI h hl _).mono xp
theorem OB{R:aQ}{ps:List Rat}(h:dG R ps):∀p∈ps,RB 4000 p:=λp hp=>by obtain⟨i,hi,rfl⟩:=Vu hp;rw[<- bM hi];exact(h.rb hi).mono xp
theorem uK:∀ls k4,ls.length=2->jT ls k4->lx (ls++List.replicate 4 .un) (aY ls k4):=by
 rintro ls k4 - ⟨R,ps,rfl,hS,h⟩;unfold lx;walk_at "w";refine⟨xp,λa=>vo hS λb=>?_⟩;walk_at "w";refine yN hS ?_;walk_at "w";have h20:(R8 R ps).length<=20:=by refine UT (VJ _ _) ?_;rw[Vc,hS.len];exact hS.ok.few
 refine⟨λn Z=>∃(qs:List Rat)(done:List eB)(m:Nat)(x5:L),Z=[.d (aJ R),.d (.lst (ps.map Rh)),.d (.lst (qs.map Rh)),.own a (done.map RW),.d (z5 (R6 (R5 R) (R8 R qs))),x5]/\dG R qs/\(R8 R qs).length=n/\n<=m/\done.length+m=20/\done++kB R m qs=kB R 20 ps,
  ⟨_,ps,[],20,_,rfl,hS,rfl,h20,rfl,rfl⟩,?_⟩
 rintro n Z ⟨qs,done,m,x5,rfl,hQ,hn,hm,hd,hs⟩
 cases e:R6 (R5 R) (R8 R qs)with
 | none =>
  unfold z5;walk_at "w"
  have e0:kB R m qs=[]:=by
   cases m with
   |zero=>rfl
   |succ m=>unfold kB rn;rw[e];rfl
  rw[e0,VC]at hs;subst hs;exact⟨_,aj (aj aP),h a⟩
 | some p =>
  obtain⟨k,l⟩:=p;obtain⟨hk,hl,hkl,hc⟩:=rX (qS R qs) e;obtain⟨hk1,hk2⟩:=kO hk;obtain⟨hl1,hl2⟩:=kO hl;have hk':k<R.asks.length:=by rw[<- hQ.len];exact hk1
  have hl':l<R.asks.length:=by rw[<- hQ.len];exact hl1
  have hkl':k≠l:=by omega
  simp only[z5];walk_at "w";unfold mN;walk_at "w";refine⟨R,qs,k,l,hk',hl',rfl,hQ,?_⟩;have en:rn R qs=some (R4 R qs k l (bP R.n R.asks[k] R.asks[l])):=by unfold rn;rw[e];show some (R4 R qs k l (bP R.n (ba R k) (ba R l)))=_;rw[c7 hk',c7 hl']
  have ok2:=Ir hQ hk1 hl1 hkl' (bP R.n R.asks[k] R.asks[l]);have less:=Bx hQ hk hl hkl' (bP R.n R.asks[k] R.asks[l]);have arb:=OA hQ hk1 hl1 (bP R.n R.asks[k] R.asks[l]);generalize hs':R4 R qs k l (bP R.n R.asks[k] R.asks[l])=s at *;have sk:s.k=k:=by rw[<- hs'];rfl
  have sl:s.l=l:=by rw[<- hs'];rfl
  walk_at "w";refine⟨?_,qs,s,rfl,by rw[hQ.len];exact hQ.ok.few,by rw[sk];exact hk1,by rw[sl];exact hl1,by rw[sk,sl];exact hkl',OB hQ,arb,λc=>?_⟩
  . exact U1 (show done.length<=20 by omega) xp
  walk_at "w";refine vo ok2 λd=>?_;walk_at "w";refine yN ok2 ?_;walk_at "w"
  cases m with
  |zero=>omega
  | succ m =>
   refine⟨_,by rw[<- hn];exact less,R0 qs s,done++[s],m,_,by rw[VQ];rfl,ok2,rfl,xL,by simp;omega,?_⟩;rw[<- hs,Vs]
   congr 1
   show s::kB R m (R0 qs s)=kB R (m+1) qs
   conv=>rhs;unfold kB
   rw[en]
def fQ:FS:=λls k4=>∃(a:RJ)(p:Rat),ls=[.d (kg a),.d (Rh p)]/\k4 (.d (.str (dD (decide (p=a.size))))) ls
def jU:W Fl:=(bu (Dm (aN (ay pN (ak 1) (ay aM (ak 0) (wC (.int 3))))) (wC (.str "on")) (wC (.str "back"))))
theorem ub:∀ls k4,ls.length=2->fQ ls k4->jU (ls++List.replicate 0 .un) (aY ls k4):=by
 rintro ls k4 - ⟨a,p,rfl,h⟩;unfold jU;have es:kg a=.tup [.str a.nm,.int a.one,.int a.other,Rh a.size]:=rfl;rw[es]at h ⊢;walk_at "w";by_cases hp:p=a.size
 . rw[if_pos hp];rw[UX hp]at h;exact⟨_,aj (aj aP),h⟩
 . rw[if_neg hp];rw[UM hp]at h;exact⟨_,aj (aj aP),h⟩
def dS:FS:=λls k4=>∃(R:aQ)(ps:List Rat)(ks:List Nat)(ws:List Bool),ls=[.d (aJ R),.d (.lst (ps.map Rh)),.d (.lst (ks.map λ(k:Nat)=>D.int (k:Int))),.d (.lst (ws.map dE))]/\ps.length=R.asks.length/\ws.length=R.asks.length/\ks.length<=20/\R.asks.length<=20 /\
 k4 (.d (.bl ((List.range R.asks.length).all (Si R ps ks ws)))) ls
def gK:W Fl:=(QZ (FQ (aN (ay (pX true) (ak 4) (ak 2))) (FQ (aN (ay uE (ay aM (ak 5) (wC (.int 3))) (wC (.tup [(.int 0),(.int 1)])))) (aN (ay uE (ay aM (ak 3) (ak 4)) (aI fQ (aq (ak 5) (aq (ay aM (ak 1) (ak 4)) aH))))))) (bu (wC (.bl false))) bA)
def eS:W Fl:=(aW (qM (xO (ay aM (ak 0) (wC (.int 1)))) (eY [4,5]) gK)
  (bu (wC (.bl true))))
theorem Ng(v w:Bool):Q6 (dE v) (.str (dD w))=decide (v=w):=by cases v<;>cases w<;>decide +kernel
theorem mz:∀ls k4,ls.length=4->dS ls k4->eS (ls++List.replicate 2 .un) (aY ls k4):=by
 rintro ls k4 - ⟨R,ps,ks,ws,rfl,hl,hw,h20,hn,h⟩;unfold eS;walk_at "w";rw[Em];refine ma (enc:=λ(k:Nat)=>D.tup [.int (k:Int),kg (ba R k)]) (List.range R.asks.length) (λpre Z=>pre.all (Si R ps ks ws)=true/\∃x4 x5,Z=[.d (aJ R),.d (.lst (ps.map Rh)),.d (.lst (ks.map λ(k:Nat)=>D.int (k:Int))),.d (.lst (ws.map dE)),x4,x5]) _ ⟨rfl,_,_,rfl⟩ ?_ ?_
 .
  rintro pre k suf Z hsp ⟨hp,x4,x5,rfl⟩ Q h1 h2 h3 h4
  have hk:k<R.asks.length:=by
   have:k∈List.range R.asks.length:=by rw[hsp];simp
   simpa using this
  unfold gK;walk_at "w";have ek:Si R ps ks ws k=(decide (k∈ks) ||decide (R.asks[k].size=0) ||decide (ws[k]=decide (ps[k]=R.asks[k].size))):=by unfold Si;rw[Cq hk,p8 (show k<ps.length by omega),UK,fI (show k<ws.length by omega)];rfl
  have go:Si R ps ks ws k=true->(pre++[k]).all (Si R ps ks ws)=true:=λz=>by rw[List.all_append,hp,Wm,z];rfl
  have no:Si R ps ks ws k=false->(List.range R.asks.length).all (Si R ps ks ws)=false:=λz=>by rw[hsp,List.all_append,Wm,z,Wg,Bool.and_false]
  refine⟨rfl,yl ks,?_⟩;rw[oX,GX hk];by_cases c1:k∈ks
  . rw[if_neg (by simp[c1])];exact h1 _ ⟨go (by rw[ek];simp[c1]),_,_,rfl⟩
  rw[if_pos (by simp[c1])];refine⟨rR 0,?_⟩;have ez:Q6 (Rh R.asks[k].size) (.tup [.int 0,.int 1])=decide (R.asks[k].size=0):=A6 _ 0;rw[ez];by_cases c2:R.asks[k].size=0
  . rw[if_neg (by simp[c2])];exact h1 _ ⟨go (by rw[ek];simp[c2]),_,_,rfl⟩
  rw[if_pos (by simp[c2])];refine⟨_,a7 xL,_,a7 xL,_,_,rfl,cx _,cx _,?_⟩;rw[Ng];by_cases c3:ws[k]=decide (ps[k]=R.asks[k].size)
  . rw[if_neg (by rw[UX c3];decide)];exact h1 _ ⟨go (by rw[ek,UX c3,Bool.or_true]),_,_,rfl⟩
  . rw[if_pos (UM c3)];refine h4 _ _ ⟨_,aj (aj (aj (aj aP))),?_⟩;rw[no (by rw[ek,UM c1,UM c2,UM c3];rfl)]at h;exact h
 . rintro Z ⟨hp,x4,x5,rfl⟩;rw[hp]at h;exact⟨_,aj (aj (aj (aj aP))),h⟩
def ck:FS:=λls k4=>∃(R:aQ)(ks:List Nat),ls=[.d (aJ R),.d (.lst (ks.map λ(k:Nat)=>D.int (k:Int)))]/\R.Ok/\(∀k∈ks,k<R.asks.length)/\k4 (.d (Rh (bZ R ks))) ls
def gL:W Fl:=(bz 2 (bB (aI qo (aq (ak 2) (aq (ay aM (ay aM (ay aM (ak 0) (wC (.int 1))) (ak 3)) (wC (.int 3))) aH)))))
def eU:W Fl:=(aW (bz 2 (wC (.tup [(.int 0),(.int 1)])))
  (aW (qM (uv (ak 1)) (bj 3) gL)
  (bu (aI wH (aq (ak 2) (aq (wC (.tup [(.int 1),(.int 2)])) aH))))))
theorem ES:RB 2 (1 / 2:Rat):=by
 have e:(1 / 2:Rat).num=1/\(1 / 2:Rat).den=2:=by decide +kernel
 unfold RB;rw[e.1,e.2];decide
theorem Hn:Rh (1 / 2:Rat)=.tup [.int 1,.int 2]:=by
 have e:(1 / 2:Rat).num=1/\(1 / 2:Rat).den=2:=by decide +kernel
 unfold Rh;rw[e.1,e.2];rfl
theorem IH{R:aQ}(hR:R.Ok):∀(ks:List Nat)(g:Rat),(∀k∈ks,k<R.asks.length)->RB 1540 g->RB 1540 (Se R ks g)
 |[],g,_,h=>h
 | k::ks,g,hk,h=>by
  show RB 1540 (Se R ks _);refine IH hR ks _ (λx hx=>hk x (gV _ hx)) ?_;dsimp only;split
  . rw[iL (hk k p4)];exact hR.rb (UO _)
  . exact h
theorem Aw{R:aQ}(hR:R.Ok){ks:List Nat}(hk:∀k∈ks,k<R.asks.length):RB 1542 (bZ R ks):=(IH hR ks 0 hk (RB.zero.mono xp)).mul ES
theorem mB:∀ls k4,ls.length=2->ck ls k4->eU (ls++List.replicate 2 .un) (aY ls k4):=by
 rintro ls k4 - ⟨R,ks,rfl,hR,hk,h⟩;unfold eU;walk_at "w";refine cF _ (λj Z=>∃(g:Rat)(x:L),Z=[.d (aJ R),.d (.lst (ks.map λ(k:Nat)=>D.int (k:Int))),.d (Rh g),x]/\RB 1540 g/\Se R (ks.drop j) g=Se R ks 0) _ ⟨0,_,rfl,RB.zero.mono xp,rfl⟩ ?_ ?_
 .
  rintro j x Z hj ⟨g,x3,rfl,hg,e⟩ Q h1 h2 h3 h4;rw[UU]at hj
  have hj':j<ks.length:=by
   rcases Nat.lt_or_ge j ks.length with q|q
   . exact q
   . rw[VZ q]at hj;exact absurd hj x_
  rw[fI hj']at hj;cases hj;have hk':=hk _ (UO hj');have rb:=hR.rb (UO hk');rw[Vi hj']at e;unfold gL;walk_at "w";refine⟨_,a7 hk',?_⟩;walk_at "w";refine⟨_,_,rfl,hg.mono xp,rb.mono xp,?_⟩;walk_at "w";refine h1 _ ⟨_,_,rfl,?_,?_⟩
  .
   split
   . exact rb
   . exact hg
  .
   rw[<- e]
   show _=Se R _ (if g<R.sz ks[j]then R.sz ks[j]else g)
   rw[Cq hk']
 . rintro Z ⟨g,x,rfl,hg,e⟩;rw[UN,Wp]at e;walk_at "w";refine⟨g,1 / 2,by rw[Hn],hg.mono xp,ES.mono xp,?_⟩;walk_at "w";have e':g=Se R ks 0:=e;rw[e'];exact⟨_,aj (aj aP),h⟩
def cB:FS:=λls k4=>∃(R:aQ)(k:Nat)(hk:k<R.asks.length),ls=[.d (.int (k:Int)),.d (aJ R)]/\k4 (.d (.int (Sb R.asks[k]))) []
def cT:W L:=(aI cQ (aq (ak 1) (aq (ak 0) aH)))
theorem jV:∀a d k4,cB [.d a,.d d] k4->cT [.d a,.d d] (λr _=>k4 r []):=by rintro a d k4 ⟨R,k,hk,e,h⟩;cases e;unfold cT;walk_at "w";exact⟨R,k,hk,rfl,h⟩
def cI:FS:=λls k4=>∃(R:aQ)(ks:List Nat),ls=[.d (aJ R),.d (.lst (ks.map λ(k:Nat)=>D.int (k:Int)))]/\ks.length<=20/\(∀k∈ks,k<R.asks.length) /\
 ∀(a:Addr)(os:List Nat),os.Perm ks->os.Pairwise (λi j=>Sd R i<=Sd R j)->k4 (.own a (os.map λ(k:Nat)=>D.int (k:Int))) ls
def fG:W Fl:=(bu (Ic cB 0 (ak 1)))
theorem oi:∀ls k4,ls.length=2->cI ls k4->fG (ls++List.replicate 0 .un) (aY ls k4):=by
 rintro ls k4 - ⟨R,ks,rfl,hl,hk,h⟩;unfold fG;walk_at "w";refine⟨ks.map λ(k:Nat)=>(k:Int),λn=>(Sd R n.toNat:Int),by rw[Vn];rfl,by rw[UN];omega,λn hn=>?_,λa out op os=>?_⟩
 . obtain⟨k,hkm,rfl⟩:=VA.mp hn;have hk':=hk k hkm;refine⟨R,k,hk',rfl,?_⟩;show D.int _=D.int ((Sd R ((k:Int)).toNat:Nat):Int);rw[VL];unfold Sd;rw[UK,fI hk'];rfl
 .
  obtain⟨ms,rfl⟩:∃ms:List Nat,out=ms.map λ(k:Nat)=>(k:Int):=by
   refine⟨out.map Int.toNat,?_⟩;rw[Vn]
   conv=>lhs;rw[<- List.map_id out]
   refine WD λn hn=>?_;obtain⟨k,_,rfl⟩:=VA.mp (op.mem_iff.mp hn);simp
  have inj:∀{l1 l2:List Nat},(l1.map λ(k:Nat)=>(k:Int)).Perm (l2.map λ(k:Nat)=>(k:Int))->l1.Perm l2:=λ{l1 l2} p=>by have:=p.map Int.toNat;rw[Vn,Vn]at this;simpa[Function.comp_def]using this
  refine⟨_,aj (aj aP),?_⟩
  have:=h a ms (inj op) (by
   rw[List.pairwise_map]at os
   exact os.imp λ{i j} q=>by
    simp only[VL]at q
    omega)
  rw[Vn];exact this
def eV:FS:=λls k4=>∃(R:aQ)(k:Nat),ls=[.d (aJ R),.d (.int (k:Int))]/\k<R.asks.length/\k4 (.d (.str (dD (pO R k)))) ls
def ly:W Fl:=(bu (Dm (aN (ay uw (ay aM (ay aM (ay aM (ak 0) (wC (.int 1))) (ak 1)) (wC (.int 1))) (ay aM (ay aM (ay aM (ak 0) (wC (.int 1))) (ak 1)) (wC (.int 2))))) (wC (.str "on")) (wC (.str "back"))))
theorem uL:∀ls k4,ls.length=2->eV ls k4->ly (ls++List.replicate 0 .un) (aY ls k4):=by
 rintro ls k4 - ⟨R,k,rfl,hk,h⟩;have e:pO R k=decide (R.asks[k].one<R.asks[k].other):=by unfold pO;rw[UK,fI hk];rfl
 rw[e]at h;unfold ly;walk_at "w";refine⟨_,a7 hk,?_⟩;walk_at "w";refine⟨_,a7 hk,?_⟩;walk_at "w";by_cases c:R.asks[k].one<R.asks[k].other
 . rw[if_pos (by omega)];rw[UX c]at h;exact⟨_,aj (aj aP),h⟩
 . rw[if_neg (by omega)];rw[UM c]at h;exact⟨_,aj (aj aP),h⟩
def gU:FS:=λls k4=>∃(R:aQ)(ps:List Rat)(k:Nat)(w:Bool),ls=[.d (aJ R),.d (.lst (ps.map Rh)),.d (.int (k:Int)),.d (dE w)]/\k<R.asks.length/\k<ps.length/\RB 1900 (R.sz k)/\RB 1900 (ps.getD k 0)/\k4 (.d (Rh (cy R ps k w))) ls
def uc:W Fl:=(aW (bz 4 (ay aM (ay aM (ay aM (ak 0) (wC (.int 1))) (ak 2)) (wC (.int 3))))
  (aW (bz 5 (bB (Dm (aN (ay pN (aI eV (aq (ak 0) (aq (ak 2) aH))) (wC (.str "on")))) (ay aM (ak 1) (ak 2)) (aI fO (aq (ak 4) (aq (ay aM (ak 1) (ak 2)) aH))))))
  (bu (aI fO (aq (Dm (aN (ay pN (ak 3) (aI eV (aq (ak 0) (aq (ak 2) aH))))) (ak 4) (wC (.tup [(.int 0),(.int 1)]))) (aq (ak 5) aH))))))
theorem Nh(v w:Bool):Q6 (dE v) (.str (dD w))=decide (v=w):=by cases v<;>cases w<;>decide +kernel
theorem BI{p q:Rat}{b c:Bool}{e:Ev}{k4:L->List L->Prop}(hp:RB 1900 p)(hq:RB 3802 q)(h:k4 (.d (Rh ((if b=c then p else 0)-q))) e)(K:L->Prop)(hK:∀r,k4 r e->K r) :
  (if decide (b=c)=true then fO [.d (Rh p),.d (Rh q)] λr _=>K r else fO [.d (.tup [.int 0,.int 1]),.d (Rh q)] λr _=>K r):=by
 by_cases x:b=c
 . rw[if_pos x]at h;rw[if_pos (UX x)];exact ja (hp.mono xp) (hq.mono xp) (hK _ h)
 . rw[if_neg x]at h;rw[if_neg (by simp[x])];exact ja (p:=0) (RB.zero.mono xp) (hq.mono xp) (hK _ h)
theorem Ax{R:aQ}{ps:List Rat}(h:dG R ps){k:Nat}(hk:k<ps.length)(w:Bool):RB 5703 (cy R ps k w):=by
 have a:RB 1900 (if w=pO R k then R.sz k else 0):=by
  split
  . exact(h.sz_rb hk).mono xp
  . exact RB.zero.mono xp
 have b:RB 3802 (if pO R k=true then ps.getD k 0 else R.sz k-ps.getD k 0):=by
  split
  . exact(h.rb hk).mono xp
  . exact((h.sz_rb hk).sub (h.rb hk)).mono xp
 exact(a.sub b).mono xp
theorem wQ{R:aQ}{ps:List Rat}{D:Nat}(hl:ps.length=R.asks.length)(d0:0<D)(da:∀a∈R.asks,a.size.den∣D)(dp:∀p∈ps,p.den∣D){k:Nat}(hk:k<ps.length)(w:Bool):(cy R ps k w).den∣D:=by
 have s:(R.sz k).den∣D:=by rw[iL xL];exact da _ (UO _)
 have p:(ps.getD k 0).den∣D:=by rw[bM hk];exact dp _ (UO _)
 unfold cy;refine tH d0 ?_ ?_
 .
  split
  . exact s
  . exact⟨D,(Nat.one_mul D).symm⟩
 .
  split
  . exact p
  . exact tH d0 s p
theorem Ay:∀ls k4,ls.length=4->gU ls k4->uc (ls++List.replicate 2 .un) (aY ls k4):=by
 rintro ls k4 - ⟨R,ps,k,w,rfl,hk,hp,b1,b2,h⟩;unfold uc;walk_at "w";refine⟨_,a7 hk,?_⟩;walk_at "w";refine⟨R,k,rfl,hk,?_⟩;walk_at "w";unfold cy at h;rw[<- Cq hk];by_cases c:pO R k=true
 . rw[if_pos c]at h ⊢;refine⟨_,a7 hp,?_⟩;rw[<- p8 hp];refine⟨R,k,rfl,hk,?_⟩;refine⟨cx _,cx _,?_⟩;rw[Nh];exact BI b1 (b2.mono xp) h _ λr hr=>⟨_,aj (aj (aj (aj aP))),hr⟩
 . rw[if_neg c]at h ⊢;refine⟨_,a7 hp,?_⟩;rw[<- p8 hp];refine ja (b1.mono xp) (b2.mono xp) ?_;refine⟨R,k,rfl,hk,?_⟩;refine⟨cx _,cx _,?_⟩;rw[Nh];exact BI b1 ((b1.sub b2).mono xp) h _ λr hr=>⟨_,aj (aj (aj (aj aP))),hr⟩
def hX:FS:=λls k4=>∃(R:aQ)(ps:List Rat)(ks:List Nat)(ws:List Bool),ls=[.d (aJ R),.d (.lst (ps.map Rh)),.d (.lst (ks.map λ(k:Nat)=>D.int (k:Int))),.d (.lst (ws.map dE))]/\dG R ps/\ws.length=R.asks.length/\ks.length<=20/\(∀k∈ks,k<R.asks.length) /\
 ∀os:List Nat,os.Perm ks->os.Pairwise (λi j=>Sd R i<=Sd R j)->k4 (.d (.bl (Sj (bZ R ks) 0 (Sl R ps ws os)))) ls
def kj:W Fl:=(aW (bz 5 (bB (aI ll (aq (ak 5) (aq (bB (aI gU (aq (ak 0) (aq (ak 1) (aq (ak 6) (aq (ay aM (ak 3) (ak 6)) aH)))))) aH)))))
  (QZ (QW (aN (aI eO (aq (ak 4) (aq (ak 5) aH)))) (aN (aI eO (aq (ak 5) (aq (bB (aI fO (aq (wC (.tup [(.int 0),(.int 1)])) (aq (ak 4) aH)))) aH))))) (bu (wC (.bl false))) bA))
def iR:W Fl:=(aW (bz 4 (bB (aI ck (aq (ak 0) (aq (ak 2) aH)))))
  (aW (bz 5 (wC (.tup [(.int 0),(.int 1)])))
  (aW (qM (uv (aI cI (aq (ak 0) (aq (ak 2) aH)))) (bj 6) kj)
  (bu (wC (.bl true))))))
theorem BJ(hf t g:Rat)(gs:List Rat):Sj hf t (g::gs)=(!(decide (hf<t+g) ||decide (t+g<0-hf)) && Sj hf (t+g) gs):=rfl
theorem rG:∀ls k4,ls.length=4->hX ls k4->iR (ls++List.replicate 3 .un) (aY ls k4):=by
 rintro ls k4 - ⟨R,ps,ks,ws,rfl,hS,hw,h20,hk,h⟩;have hb:=Aw hS.ok hk;obtain⟨M,d0,d1,da,dp⟩:=hS.cd;have hl:=hS.len;unfold iR;walk_at "w";refine⟨R,ks,rfl,hS.ok,hk,?_⟩;walk_at "w";refine⟨R,ks,rfl,h20,hk,λa os op ow=>?_⟩;walk_at "w";have h:=h os op ow;have hko:∀k∈os,k<R.asks.length:=λk m=>hk k (op.mem_iff.mp m);have hol:os.length<=20:=by rw[op.length_eq];exact h20
 refine cF _ (λj Z=>∃(t:Rat)(x:L),Z=[.d (aJ R),.d (.lst (ps.map Rh)),.d (.lst (ks.map λ(k:Nat)=>D.int (k:Int))),.d (.lst (ws.map dE)),.d (Rh (bZ R ks)),.d (Rh t),x]/\RB (5704*j+1) t/\t.den∣M/\Sj (bZ R ks) t (Sl R ps ws (os.drop j))=Sj (bZ R ks) 0 (Sl R ps ws os)) _ ⟨0,_,rfl,RB.zero,⟨M,(Nat.one_mul M).symm⟩,rfl⟩ ?_ ?_
 .
  rintro j x Z hj ⟨t,x6,rfl,ht,td,e⟩ Q h1 h2 h3 h4;rw[UU]at hj
  have hj':j<os.length:=by
   rcases Nat.lt_or_ge j os.length with q|q
   . exact q
   . rw[VZ q]at hj;exact absurd hj x_
  rw[fI hj']at hj;cases hj;have hk':=hko _ (UO hj');have hkp:os[j]<ps.length:=by omega
  rw[Vi hj']at e;have gr:=Ax hS hkp (ws.getD os[j] true);have gd:=wQ hl d0 da dp hkp (ws.getD os[j] true);have sr:=ht.add gr;have sd:=qa d0 td gd;unfold kj;walk_at "w";have ew:ws[os[j]]'(by omega)=ws.getD os[j] true:=by rw[UK,fI xL];rfl
  refine⟨_,a7 xL,?_⟩;rw[ew];have b6:5704*(j+1)+1<=114081:=by omega
  have tn:t.den*(cy R ps os[j] (ws.getD os[j] true)).den<2^9000 :=
   so (bp (U1 (Wl d0 td) d1) (U1 (Wl d0 gd) d1)) (UW xp xp)
  refine⟨R,ps,_,_,rfl,hk',hkp,(hS.sz_rb hkp).mono xp,(hS.rb hkp).mono xp,?_⟩;refine⟨t,_,rfl,ht.mono xL,gr.mono xp,tn,?_⟩;have e:Sj (bZ R ks) t (cy R ps os[j] (ws.getD os[j] true)::Sl R ps ws (os.drop (j+1)))=Sj (bZ R ks) 0 (Sl R ps ws os):=e;rw[BJ]at e;refine⟨_,_,rfl,hb.mono xp,sr.mono xL,?_⟩
  show if _ then _ else _
  by_cases c1:bZ R ks<t+cy R ps os[j] (ws.getD os[j] true)
  . rw[if_pos (UX c1)];rw[UX c1,Bool.true_or,Bool.not_true,Wg]at e;refine h4 _ _ ⟨_,aj (aj (aj (aj aP))),?_⟩;rw[<- e]at h;exact h
  rw[if_neg (by rw[UM c1];decide)];refine ja (p:=0) (RB.zero.mono xp) (hb.mono xp) ?_;have mb:RB 1544 (0-bZ R ks):=(RB.zero.sub hb).mono xp;refine⟨_,_,rfl,sr.mono xL,mb.mono xp,?_⟩
  show if _ then _ else _
  by_cases c2:t+cy R ps os[j] (ws.getD os[j] true)<0-bZ R ks
  . rw[if_pos (UX c2)];rw[UX c2,Bool.or_true,Bool.not_true,Wg]at e;refine h4 _ _ ⟨_,aj (aj (aj (aj aP))),?_⟩;rw[<- e]at h;exact h
  . rw[if_neg (by rw[UM c2];decide)];rw[UM c1,UM c2,Bool.or_self,Bool.not_false,VR]at e;exact h1 _ ⟨_,_,rfl,sr.mono xL,sd,e⟩
 . rintro Z ⟨t,x,rfl,_,_,e⟩;rw[UN,Wp]at e;walk_at "w";rw[<- e]at h;exact⟨_,aj (aj (aj (aj aP))),h⟩
def cz:FS:=λls k4=>∃(R:aQ)(ps:List Rat)(d:D)(M:Nat),ls=[.d (aJ R),.d (.lst (ps.map Rh)),.d d]/\dG R ps/\(0<M/\M<2^1500/\(∀a∈R.asks,a.size.den∣M)/\(∀p∈ps,p.den∣M)) /\
 (∀x y,d=.tup [x,y]->(∀xs,y=.lst xs->xs.length<=99)/\∃ss,x=.lst ss/\ss.length<=99/\∀u∈ss,∀s,rZ u=some s->RB 4000 s.am/\s.am.den∣M) /\
 (∀ss y,d=.tup [.lst ss,y]->yt R 0 ps ss=none) /\
 ((∀(ss:List D)(ws:List Bool),d=.tup [.lst ss,.lst (ws.map dE)]->ws.length=R.asks.length->yt R 0 ps ss=none->R6 (R5 R) (R8 R (qT R ps ss))=none->False)->k4 (.d (.bl false)) ls) /\
 ∀(ss:List D)(ws:List Bool)(os:List Nat),d=.tup [.lst ss,.lst (ws.map dE)]->ws.length=R.asks.length->yt R 0 ps ss=none->R6 (R5 R) (R8 R (qT R ps ss))=none->os.Perm (R8 R (qT R ps ss))->os.Pairwise (λi j=>Sd R i<=Sd R j) ->
  k4 (.d (.bl ((List.range R.asks.length).all (Si R (qT R ps ss) (R8 R (qT R ps ss)) ws) && Sj (bZ R (R8 R (qT R ps ss))) 0 (Sl R (qT R ps ss) ws os)))) ls
def jc:W Fl:=(bu (nF (aI dS (aq (ak 0) (aq (ak 3) (aq (ak 4) (aq (ay aM (ak 2) (wC (.int 1))) aH))))) (aI hX (aq (ak 0) (aq (ak 3) (aq (ak 4) (aq (ay aM (ak 2) (wC (.int 1))) aH)))))))
def jd:W Fl:=(aW (QZ (aN (ay va (aI a8 (aq (ak 0) (aq (ak 4) aH))) (wC .non))) (bu (wC (.bl false))) bA)
  jc)
def je:W Fl:=(aW (bz 4 (bB (aI cb (aq (ak 0) (aq (ak 3) aH)))))
  jd)
def jf:W Fl:=(aW (bz 3 (bB (aI jb (aq (ak 0) (aq (ak 1) (aq (ay aM (ak 2) (wC (.int 0))) aH))))))
  je)
def ia:W Fl:=(aW (QZ (QW (nD (aN (QY (gN "tuple") (ak 2)))) (QW (aN (ay uE (aZ cZ (aq (ak 2) aH)) (wC (.int 2)))) (nD (aN (aI jP (aq (ak 0) (aq (ay aM (ak 2) (wC (.int 1))) aH))))))) (bu (wC (.bl false))) bA)
  jf)
theorem KL{n:Nat}{d:D}(h:Iy n d=true):∃ws:List Bool,d=.lst (ws.map dE)/\ws.length=n:=by
 unfold Iy at h
 cases d with
 | lst xs =>
  rw[UQ,UP]at h;obtain⟨h1,h2⟩:=h;refine⟨xs.map λx=>(kQ x).getD true,?_,by rw[UN];exact h1⟩
  congr 1
  rw[Vn]
  conv=>lhs;rw[<- List.map_id xs]
  refine WD λx hx=>?_;have:=VE.mp h2 x hx;rw[qc]at this;obtain⟨w,e⟩:=V1.mp this;show x=dE ((kQ x).getD true);rw[e];exact oY e
 |_=>cases h
theorem Ho{n:Nat}{ws:List Bool}(h:ws.length=n):Iy n (.lst (ws.map dE))=true:=by unfold Iy;rw[UQ,UP,UN];refine⟨h,?_⟩;rw[List.all_map,VE];intro w _;show rY (.str (dD w))=true;rw[qc,tJ];rfl
theorem Az{as bs:List D}{x y:D}(e:D.tup [.lst as,x]=.tup [.lst bs,y]):as=bs:=by injection e with e;injection e with e _;injection e
theorem OC{k:W Fl}{R:aQ}{P d x3 x4:D}{k4:Fl->Ev->Prop}(hy:∀x y,d=.tup [x,y]->∀xs,y=.lst xs->xs.length<=99)
  (h1:(∀(x:D)(ws:List Bool),d=.tup [x,.lst (ws.map dE)]->ws.length=R.asks.length->False)->k4 (.rt (.d (.bl false))) [.d (aJ R),.d P,.d d,.un,.un])
  (h2:∀(x:D)(ws:List Bool),d=.tup [x,.lst (ws.map dE)]->ws.length=R.asks.length->k [.d (aJ R),.d P,.d d,.un,.un] k4) :
  aW (QZ (QW (nD (aN (QY (gN "tuple") (ak 2)))) (QW (aN (ay uE (aZ cZ (aq (ak 2) aH)) (wC (.int 2)))) (nD (aN (aI jP (aq (ak 0) (aq (ay aM (ak 2) (wC (.int 1))) aH))))))) (bu (wC (.bl false))) bA) k [.d (aJ R),.d P,.d d,.un,.un] k4:=by
 by_cases ht:∃xs,d=.tup xs
 .
  obtain⟨xs,rfl⟩:=ht;by_cases hl:xs.length=2
  .
   match xs,hl with
   | [x,y],_ =>
    walk_at "w";refine⟨R,y,rfl,hy x y rfl,?_⟩;walk_at "w"
    cases e:Iy R.asks.length y with
    | false =>
     walk_at "w";refine h1 λx' ws ed hw=>?_;cases ed;rw[Ho hw]at e;cases e
    | true =>
     obtain⟨ws,ew,hw⟩:=KL e;walk_at "w";exact h2 x ws (by rw[ew]) hw
  .
   have hn:¬((xs.length:Int)=2):=by omega
   walk_at "w";rw[if_pos (by simpa using hn)];refine h1 λx' ws ed hw=>?_;cases ed;exact hl rfl
 .
  have ei:oG "tuple" d=false:=by
   cases d<;>first
    |exact absurd ⟨_,rfl⟩ ht
    |rfl
  walk_at "w";rw[ei];walk_at "w";refine h1 λx' ws ed hw=>ht ⟨_,ed⟩
theorem KM{k:W Fl}{R:aQ}{ps:List Rat}{ss:List D}{y:D}{M:Nat}{k4:Fl->Ev->Prop}(hS:dG R ps)(h99:ss.length<=99)(ha:∀u∈ss,∀s,rZ u=some s->RB 4000 s.am/\s.am.den∣M)(hD:0<M/\M<2^1500/\(∀a∈R.asks,a.size.den∣M)/\(∀p∈ps,p.den∣M))
  (hb:yt R 0 ps ss=none) (h1:k [.d (aJ R),.d (.lst (ps.map Rh)),.d (.tup [.lst ss,y]),.d (.lst ((qT R ps ss).map Rh)),.un] k4) :
  aW (bz 3 (bB (aI jb (aq (ak 0) (aq (ak 1) (aq (ay aM (ak 2) (wC (.int 0))) aH)))))) k [.d (aJ R),.d (.lst (ps.map Rh)),.d (.tup [.lst ss,y]),.un,.un] k4:=by
 walk_at "w";refine⟨R,ps,ss,M,rfl,hS,h99,ha,hD,hb,λa=>?_⟩;walk_at "w";exact h1
theorem KN{k:W Fl}{R:aQ}{ps qs:List Rat}{d:D}{k4:Fl->Ev->Prop}(hS:dG R qs)
  (h:k [.d (aJ R),.d (.lst (ps.map Rh)),.d d,.d (.lst (qs.map Rh)),.d (.lst ((R8 R qs).map λ(k:Nat)=>D.int (k:Int)))] k4) :
  aW (bz 4 (bB (aI cb (aq (ak 0) (aq (ak 3) aH))))) k [.d (aJ R),.d (.lst (ps.map Rh)),.d d,.d (.lst (qs.map Rh)),.un] k4:=by
 walk_at "w";refine⟨R,qs,4000,rfl,hS.ok,hS.len,BH hS,xp,λa=>?_⟩;walk_at "w";exact h
theorem KO{k:W Fl}{R:aQ}{ps qs:List Rat}{d:D}{k4:Fl->Ev->Prop}(hS:dG R qs)
  (h1:R6 (R5 R) (R8 R qs)=none->k [.d (aJ R),.d (.lst (ps.map Rh)),.d d,.d (.lst (qs.map Rh)),.d (.lst ((R8 R qs).map λ(k:Nat)=>D.int (k:Int)))] k4)
  (h2:R6 (R5 R) (R8 R qs)≠none->k4 (.rt (.d (.bl false))) [.d (aJ R),.d (.lst (ps.map Rh)),.d d,.d (.lst (qs.map Rh)),.d (.lst ((R8 R qs).map λ(k:Nat)=>D.int (k:Int)))]) :
  aW (QZ (aN (ay va (aI a8 (aq (ak 0) (aq (ak 4) aH))) (wC .non))) (bu (wC (.bl false))) bA) k [.d (aJ R),.d (.lst (ps.map Rh)),.d d,.d (.lst (qs.map Rh)),.d (.lst ((R8 R qs).map λ(k:Nat)=>D.int (k:Int)))] k4:=by
 walk_at "w";refine⟨R,_,rfl,(vm hS).1,(vm hS).2,?_⟩
 cases e:R6 (R5 R) (R8 R qs)with
 | none =>
  unfold z5;walk_at "w";exact h1 e
 | some p =>
  obtain⟨a,b⟩:=p;unfold z5;walk_at "w";exact h2 (by rw[e];exact λz=>nomatch z)
theorem Hq{as bs:List Bool}(h:as.map dE=bs.map dE):as=bs:=by
 have e:∀l:List Bool,(l.map dE).map (λd=>(kQ d).getD true)=l:=λl=>by
  rw[Vn]
  conv=>rhs;rw[<- List.map_id l]
  exact WD λw _=>by show(kQ (.str (dD w))).getD true=w;rw[tJ];rfl
 rw[<- e as,<- e bs,h]
theorem Hr{x y:D}{as bs:List Bool}(e:D.tup [x,.lst (as.map dE)]=.tup [y,.lst (bs.map dE)]):as=bs:=by injection e with e;injection e with _ e;injection e with e _;injection e with e;exact Hq e
theorem Hs{R:aQ}{ps:List Rat}{ss:List D}{ws:List Bool}{M:Nat}{k4:L->List L->Prop}(hD:Sn R ps M)(h99:ss.length<=99)(ha:∀u∈ss,∀s,rZ u=some s->RB 4000 s.am/\s.am.den∣M)(hw:ws.length=R.asks.length)(hb0:yt R 0 ps ss=none)
  (h0:(yt R 0 ps ss=none->R6 (R5 R) (R8 R (qT R ps ss))=none->False)->k4 (.d (.bl false)) [.d (aJ R),.d (.lst (ps.map Rh)),.d (.tup [.lst ss,.lst (ws.map dE)])])
  (h1:∀os:List Nat,yt R 0 ps ss=none->R6 (R5 R) (R8 R (qT R ps ss))=none->os.Perm (R8 R (qT R ps ss))->os.Pairwise (λi j=>Sd R i<=Sd R j) ->
   k4 (.d (.bl ((List.range R.asks.length).all (Si R (qT R ps ss) (R8 R (qT R ps ss)) ws) && Sj (bZ R (R8 R (qT R ps ss))) 0 (Sl R (qT R ps ss) ws os)))) [.d (aJ R),.d (.lst (ps.map Rh)),.d (.tup [.lst ss,.lst (ws.map dE)])]) :
  cz [.d (aJ R),.d (.lst (ps.map Rh)),.d (.tup [.lst ss,.lst (ws.map dE)])] k4:=by
 refine⟨R,ps,_,M,rfl,hD.ok,⟨hD.d0,hD.d1,hD.da,hD.dp⟩,λx y e=>?_,λss' y e=>by rw[<- Az e];exact hb0,λno=>h0 λa b=>no ss ws rfl hw a b,λss' ws' os e hw' hb hc op ow=>?_⟩
 . cases e;have:=hD.ok.ok.few;exact⟨λxs e=>by cases e;rw[UN];omega,ss,rfl,h99,ha⟩
 . obtain rfl:=Hr e;obtain rfl:=Az e;exact h1 os hb hc op ow
theorem Ht{R:aQ}{ps:List Rat}{M:Nat}{os:List Nat}{k4:L->List L->Prop}(hD:Sn R ps M)(op:os.Perm (R8 R (iy R 20 ps)))(ow:os.Pairwise λi j=>Sd R i<=Sd R j)
  (h:k4 (.d (.bl true)) [.d (aJ R),.d (.lst (ps.map Rh)),.d (.tup [.lst ((kB R 20 ps).map RW),.lst ((Sg R (iy R 20 ps) (bZ R (R8 R (iy R 20 ps))) 0 (Sh R (iy R 20 ps)) os).map dE)])]) :
  cz [.d (aJ R),.d (.lst (ps.map Rh)),.d (.tup [.lst ((kB R 20 ps).map RW),.lst ((Sg R (iy R 20 ps) (bZ R (R8 R (iy R 20 ps))) 0 (Sh R (iy R 20 ps)) os).map dE)])] k4:=by
 obtain⟨r1,r2,r3⟩:=wk 20 0 ps hD;have hc:=yu hD.ok;refine Hs hD (by rw[UN];exact UT (IE hD.ok) xp) (MZ (EC 20 ps hD)) (by rw[Et,BF r3.ok]) r1 (λno=>(no r1 (by rw[r2];exact hc)).elim) λos' _ _ op' ow'=>?_;rw[r2]at op' ⊢;obtain rfl:=z9 hc op ow op' ow';rw[Ew r3.ok op,Ex r3.ok op];exact h
theorem qw:∀ls k4,ls.length=3->cz ls k4->ia (ls++List.replicate 2 .un) (aY ls k4):=by
 rintro ls k4 - ⟨R,ps,d,M,rfl,hS,hM,hd,hbn,hf,ht⟩;have bk:∀(b:Bool)(x y:L),k4 (.d (.bl b)) [.d (aJ R),.d (.lst (ps.map Rh)),.d d]->aY [.d (aJ R),.d (.lst (ps.map Rh)),.d d] k4 (.rt (.d (.bl b))) [.d (aJ R),.d (.lst (ps.map Rh)),.d d,x,y]:=λb x y h=>⟨_,aj (aj (aj aP)),h⟩;unfold ia;refine OC (x3:=.non) (x4:=.non) (λx y e=>(hd x y e).1) (λno=>bk _ _ _ (hf λss ws e hw _ _=>no _ ws e hw)) λx ws e hw=>?_;subst e;obtain⟨_,ss,rfl,h99,ha⟩:=hd _ _ rfl;unfold jf;have hb:=hbn _ _ rfl;refine KM hS h99 ha hM hb ?_
 .
  have hQ:dG R (qT R ps ss):=(Iz ss 0 ps ⟨hS,hM.1,hM.2.1,hM.2.2.1,hM.2.2.2⟩ ha hb).ok;unfold je;refine KN hQ ?_;unfold jd;refine KO hQ (λhc=>?_) λhc=>bk _ _ _ (hf λss' ws' e hw' hb' hc'=>?_)
  .
   unfold jc;walk_at "w";obtain⟨p1,p2⟩:=vm hQ;refine⟨R,_,_,ws,rfl,hQ.len,hw,p1,hQ.ok.few,?_⟩;have ht:=ht ss ws;generalize qT R ps ss=qs at *
   cases e:(List.range R.asks.length).all (Si R qs (R8 R qs) ws)with
   | false =>
    walk_at "w";obtain⟨os,op,ow⟩:=ID R (R8 R qs);have:=ht os rfl hw hb hc op ow;rw[e,Wg]at this;exact bk _ _ _ this
   | true =>
    walk_at "w";refine⟨R,_,_,ws,rfl,hQ,hw,p1,p2,λos op ow=>?_⟩;have:=ht os rfl hw hb hc op ow;rw[e,VR]at this;exact bk _ _ _ this
  . obtain rfl:=Az e;exact hc hc'
def ib:FS:=λls k4=>∃(R:aQ)(ps:List Rat),ls=[.d (aJ R),.d (.lst (ps.map Rh))]/\dG R ps /\
 ∀(a:Addr)(os:List Nat),os.Perm (eQ R ps)->os.Pairwise (λi j=>Sd R i<=Sd R j)->k4 (.own a ((Sg R ps (bZ R (eQ R ps)) 0 (Sh R ps) os).map dE)) ls
def kq:W Fl:=(aW (sN 3 (ak 6) (aI eV (aq (ak 0) (aq (ak 6) aH))))
  (aW (QZ (aN (aI eO (aq (ak 4) (aq (bB (aI ll (aq (ak 5) (aq (bB (aI gU (aq (ak 0) (aq (ak 1) (aq (ak 6) (aq (eZ 3 (y6 3 (ak 6)) (ay aM (ak 3) (ak 6))) aH)))))) aH)))) aH)))) (sN 3 (ak 6) (aI lq (aq (eZ 3 (y6 3 (ak 6)) (ay aM (ak 3) (ak 6))) aH))) bA)
  (bz 5 (bB (aI ll (aq (ak 5) (aq (bB (aI gU (aq (ak 0) (aq (ak 1) (aq (ak 6) (aq (eZ 3 (y6 3 (ak 6)) (ay aM (ak 3) (ak 6))) aH)))))) aH)))))))
def kr:W L:=(aI fQ (aq (ak 0) (aq (ak 1) aH)))
def iS:W Fl:=(aW (bz 2 (bB (aI cb (aq (ak 0) (aq (ak 1) aH)))))
  (aW (bz 3 (kL 2 [] (NA (ay aM (ak 0) (wC (.int 1))) (ak 1)) (eY [0,1]) kK kr))
  (aW (bz 4 (bB (aI ck (aq (ak 0) (aq (ak 2) aH)))))
  (aW (bz 5 (wC (.tup [(.int 0),(.int 1)])))
  (aW (qM (uv (aI cI (aq (ak 0) (aq (ak 2) aH)))) (bj 6) kq)
  (bu (nC 3)))))))
theorem rH:∀ls k4,ls.length=2->ib ls k4->iS (ls++List.replicate 5 .un) (aY ls k4):=by
 rintro ls k4 - ⟨R,ps,rfl,hS,h⟩;have hl:=hS.len;have few:=hS.ok.few;have prb:∀p∈ps,RB 1800 p:=λp hp=>by obtain⟨i,hi,rfl⟩:=Vu hp;rw[<- bM hi];exact hS.rb hi
 unfold iS;walk_at "w";refine⟨R,ps,1800,rfl,hS.ok,hl,prb,xp,λa0=>?_⟩;walk_at "w";have e:Ft (R.asks.map kg) (ps.map Rh)=(R.asks.zip ps).map λx=>D.tup [kg x.1,Rh x.2]:=by unfold Ft;rw[List.zip_map,Vn];rfl
 rw[e];refine⟨by rw[UN,VO];exact UT (show min R.asks.length ps.length<=20 by omega) xp,?_⟩;refine xW (h:=λx=>dE (decide (x.2=x.1.size))) _ _ _ _ (λx hx Q q=>?_) λl m a=>?_
 . unfold kr;walk_at "w";exact⟨_,_,rfl,q⟩
 have hkp:∀k∈eQ R ps,k<ps.length:=λk hk=>by unfold eQ at hk;simpa using(VG.mp hk).1
 have pl:(eQ R ps).length<=20:=by unfold eQ;refine UT (VJ _ _) ?_;rw[Vc];omega
 have hkr:∀k∈eQ R ps,k<R.asks.length:=λk hk=>by have:=hkp k hk;omega
 refine⟨R,_,rfl,hS.ok,hkr,?_⟩;refine⟨R,_,rfl,pl,hkr,λb os op ow=>?_⟩;walk_at "w";have h:=h a os op ow;have hko:∀k∈os,k<R.asks.length:=λk m=>hkr k (op.mem_iff.mp m);have hol:os.length<=20:=by rw[op.length_eq];exact pl
 have hb:=Aw hS.ok hkr;obtain⟨M,d0,d1,da,dp⟩:=hS.cd;have en:(R.asks.zip ps).map (λx=>dE (decide (x.snd=x.fst.size)))=(Sh R ps).map dE:=by unfold Sh;rw[Vn];rfl
 rw[en];have nl:(Sh R ps).length=R.asks.length:=by unfold Sh;rw[UN,VO];omega
 generalize bZ R (eQ R ps)=hf at hb h ⊢;refine cF _ (λj Z=>∃(t:Rat)(ws:List Bool)(x:L),Z=[.d (aJ R),.d (.lst (ps.map Rh)),.d (.lst ((eQ R ps).map λ(k:Nat)=>D.int (k:Int))),.own a (ws.map dE),.d (Rh hf),.d (Rh t),x]/\ws.length=R.asks.length/\RB (5704*j+1) t/\t.den∣M/\Sg R ps hf t ws (os.drop j)=Sg R ps hf 0 (Sh R ps) os) _ ⟨0,_,_,rfl,nl,RB.zero,⟨M,(Nat.one_mul M).symm⟩,rfl⟩ ?_ ?_
 .
  rintro j x Z hj ⟨t,ws,x6,rfl,wl,ht,td,e⟩ Q h1 h2 h3 h4;rw[UU]at hj
  have hj':j<os.length:=by
   rcases Nat.lt_or_ge j os.length with q|q
   . exact q
   . rw[VZ q]at hj;exact absurd hj x_
  rw[fI hj']at hj;cases hj;have hk':=hko _ (UO hj');rw[Vi hj']at e;generalize os[j]=k at hk' e ⊢;have hkp:k<ps.length:=by omega
  have gr:=λw=>Ax hS hkp w;have gd:=λw=>wQ hl d0 da dp hkp w;have sr:=λw=>ht.add (gr w);have sd:=λw=>qa d0 td (gd w);have b6:5704*(j+1)+1<=114081:=by omega
  have tn:∀w,t.den*(cy R ps k w).den<2^9000:=λw =>
   so (bp (U1 (Wl d0 td) d1) (U1 (Wl d0 (gd w)) d1)) (UW xp xp)
  have kl:k<ws.length:=by omega
  have ix:∀{n:Nat},k<n->Qy n (k:Int)=some k:=λ{n} hn=>by unfold Qy;rw[if_pos (by omega),if_pos (by omega),VL]
  have st:∀(us:List Bool)(w:Bool),(us.map dE).set k (.str (dD w))=(us.set k w).map dE:=λus w=>by rw[List.map_set];rfl
  have at1:∀(us:List Bool)(w:Bool),k<us.length->Qz ((us.set k w).map dE) (k:Int)=some (dE w):=λus w hu=>by rw[a7 (by rw[VP];exact hu),List.getElem_set_self]
  have pls:∀(w:Bool)(k4:L->List L->Prop),k4 (.d (Rh (t+cy R ps k w))) [.d (Rh t),.d (Rh (cy R ps k w))]->ll [.d (Rh t),.d (Rh (cy R ps k w))] k4:=λw k4 q=>⟨t,_,rfl,ht.mono xL,(gr w).mono xp,tn w,q⟩;have gns:∀(w:Bool)(k4:L->List L->Prop),k4 (.d (Rh (cy R ps k w))) [.d (aJ R),.d (.lst (ps.map Rh)),.d (.int (k:Int)),.d (dE w)]->gU [.d (aJ R),.d (.lst (ps.map Rh)),.d (.int (k:Int)),.d (dE w)] k4:=λw k4 q=>⟨R,ps,k,w,rfl,hk',hkp,(hS.sz_rb hkp).mono xp,(hS.rb hkp).mono xp,q⟩;have e:Sg R ps hf (t+cy R ps k (Sf R ps hf t k)) (ws.set k (Sf R ps hf t k)) (os.drop (j+1))=_:=e;unfold kq;walk_at "w";refine⟨R,k,rfl,hk',?_⟩;dsimp only;refine⟨k,ix kl,?_⟩;rw[st];refine⟨_,at1 _ _ kl,gns _ _ (pls _ _ ⟨hf,_,rfl,hb.mono xp,(sr _).mono xL,?_⟩)⟩;dsimp only;by_cases c:hf<t+cy R ps k (pO R k)
  . have ew:Sf R ps hf t k=!pO R k:=if_pos c;rw[ew]at e;rw[if_pos (UX c)];refine⟨_,at1 _ _ kl,_,rfl,?_⟩;dsimp only;refine⟨k,ix (by simpa using kl),?_⟩;rw[st];refine⟨_,at1 _ _ (by simpa using kl),gns _ _ (pls _ _ ?_)⟩;rw[Wd];exact h1 _ ⟨_,_,_,rfl,by rw[VP];exact wl,(sr _).mono xL,sd _,e⟩
  . have ew:Sf R ps hf t k=pO R k:=if_neg c;rw[ew]at e;rw[if_neg (by rw[UM c];decide)];refine⟨_,at1 _ _ kl,gns _ _ (pls _ _ ?_)⟩;exact h1 _ ⟨_,_,_,rfl,by rw[VP];exact wl,(sr _).mono xL,sd _,e⟩
 . rintro Z ⟨t,ws,x,rfl,_,_,_,e⟩;rw[UN,Wp]at e;have e:ws=_:=e;walk_at "w";rw[<- e]at h;exact⟨_,aj (aj aP),h⟩
def dH:FS:=λls k4=>∃(R:aQ)(ps:List Rat),ls=[.d (aJ R),.d (.lst (ps.map Rh))]/\dG R ps /\
 ∀(a b:Addr)(os:List Nat),os.Perm (eQ R (iy R 20 ps))->os.Pairwise (λi j=>Sd R i<=Sd R j) ->
  k4 (.bx none [.own a ((kB R 20 ps).map RW),.own b ((Sg R (iy R 20 ps) (bZ R (eQ R (iy R 20 ps))) 0 (Sh R (iy R 20 ps)) os).map dE)]) ls
def jW:W Fl:=(aW (bz 2 (aI jT (aq (ak 0) (aq (ak 1) aH))))
  (bu (JW 2 (pS 2 (aq (aI ib (aq (ak 0) (aq (bB (kN 2 (aI jb (aq (ak 0) (aq (ak 1) (aq (ak 2) aH)))))) aH))) aH)))))
theorem ud:∀ls k4,ls.length=2->dH ls k4->jW (ls++List.replicate 1 .un) (aY ls k4):=by
 rintro ls k4 - ⟨R,ps,rfl,hS,h⟩;obtain⟨M,d0,d1,da,dp⟩:=hS.cd;have hD:Sn R ps M:=⟨hS,d0,d1,da,dp⟩;obtain⟨r1,r2,r3⟩:=wk 20 0 ps hD;unfold jW;walk_at "w";refine⟨R,ps,rfl,hS,λa=>?_⟩;walk_at "w";have len:((kB R 20 ps).map RW).length<=99:=by rw[UN];refine UT (we 20 ps hS) (UT (VJ _ _) ?_);rw[Vc,hS.len];exact UT hS.ok.few xp
 refine⟨R,ps,_,M,rfl,hS,len,λd hd s es=>?_,⟨d0,d1,da,dp⟩,r1,λb=>?_⟩
 . obtain⟨u,hu,rfl⟩:=VA.mp hd;rw[kR]at es;cases es;exact EC 20 ps hD _ hu
 . rw[r2];refine⟨by walk_at "w",?_⟩;refine⟨R,iy R 20 ps,rfl,r3.ok,λc os op ow=>?_⟩;exact⟨xp,⟨_,_,rfl⟩,_,aj (aj aP),h a c os op ow⟩
def c9:FS:=λls k4=>∃(ns:List Int)(k:Int),ls=[.d (.lst (ns.map .int)),.d (.int k)]/\0<=k/\k<=100/\∀a xs,uy xs->k4 (.own a xs) ls
def lz:W Fl:=(aW (bz 2 (wC (.int 0)))
  (aW (QZ (aN (ay uw (ak 1) (aZ cZ (aq (ak 0) aH)))) (bz 2 (ay aM (ak 0) (ak 1))) bA)
  (bu (qL (aq (ak 2) (aq (ay gX (ay dO (ay dO (ay gX (ak 2) (wC (.int 2147483587))) (ay bK (ay bK (wC (.int 48271)) (ak 1)) (ak 1))) (wC (.int 13))) (wC (.int 2147483587))) (aq (ay LU (ak 2) (ay B4 (wC (.int 10)) (wC (.int 18)))) aH)))))))
theorem uM:∀ls k4,ls.length=2->c9 ls k4->lz (ls++List.replicate 1 .un) (aY ls k4):=by
 rintro ls k4 - ⟨ns,k,rfl,h0,h1,h⟩;unfold lz
 have Qd:∀(c:Int)(Z:Ev)(e:Z=[.d (.lst (ns.map .int)),.d (.int k),.d (.int c)]),∀a:Addr,aY [.d (.lst (ns.map .int)),.d (.int k)] k4 (.rt (.own a [.int c,.int ((c.fmod 2147483587+48271*k*k+13).fmod 2147483587),.bl (decide ((10:Int)^18<=c))])) Z:=λc Z e a=>by
  refine⟨_,aj (aj aP),h a _ ⟨_,_,_,rfl,?_,?_⟩⟩
  . rw[Va _ xp];exact Wz _ xp
  . rw[Va _ xp];have:=Wu (c.fmod 2147483587+48271*k*k+13) (b:=2147483587) xp;omega
 have hb1:dF 48271:=bF xp;have hb2:dF k:=bF (U1 (show k.natAbs<=100 by omega) xp);have hb3:dF (48271*k):=bF (U1 (show(48271*k).natAbs<=4827100 by omega) xp);walk_at "w"
 try rw[UN]
 split
 .
  rename_i hk;have hk:k<(ns.length:Int):=by simpa using hk
  have hi:k.toNat<ns.length:=by omega
  refine⟨.int ns[k.toNat],Ij h0 (by rw[UU,fI hi];rfl),?_⟩;exact⟨xp,hb1,hb2,hb3,hb2,xp,xp,xp,xp,xp,Qd _ _ rfl⟩
 . exact⟨xp,hb1,hb2,hb3,hb2,xp,xp,xp,xp,xp,Qd _ _ rfl⟩
def aV:FS:=λls k4=>∃(a:Addr)(xs:List D)(m:Int),ls=[.own a xs,.d (.int m)]/\uy xs/\0<m/\m<=10^60/\∀(r:Int)(ys:List D),uy ys->0<=r->r<m->k4 (.d (.int r)) [.own a ys,.d (.int m)]
def jX:W Fl:=(aW (sN 0 (wC (.int 1)) (ay gX (ay dO (ay bK (eZ 0 (y6 0 (wC (.int 1))) (ay aM (ak 0) (wC (.int 1)))) (wC (.int 39373))) (wC (.int 17))) (wC (.int 2147483647))))
  (bz 3 (bB (ay dO (ay bK (ak 3) (wC (.int 2147483629))) (ay gX (ay bK (eZ 0 (y6 0 (wC (.int 1))) (ay aM (ak 0) (wC (.int 1)))) (eZ 0 (y6 0 (wC (.int 1))) (ay aM (ak 0) (wC (.int 1))))) (wC (.int 2147483629)))))))
def oj:W Fl:=(aW (QZ (aN (eZ 0 (y6 0 (wC (.int 2))) (ay aM (ak 0) (wC (.int 2))))) (aW (bz 2 (ay gX (eZ 0 (y6 0 (wC (.int 0))) (ay aM (ak 0) (wC (.int 0)))) (ak 1)))
  (aW (sN 0 (wC (.int 0)) (ay uD (eZ 0 (y6 0 (wC (.int 0))) (ay aM (ak 0) (wC (.int 0)))) (ak 1)))
  (aW (sN 0 (wC (.int 2)) (ay Jk (eZ 0 (y6 0 (wC (.int 0))) (ay aM (ak 0) (wC (.int 0)))) (wC (.int 0))))
  (bu (nC 2))))) bA)
  (aW (bz 3 (wC (.int 0)))
  (aW (qM (uC (ay dO (wC (.int 1)) (ay bK (wC (.int 8)) (aZ xC (aq (ay Jk (ak 1) (ay B4 (wC (.int 10)) (wC (.int 6)))) aH))))) (bj 4) jX)
  (bu (ay gX (ay uD (ak 3) (wC (.int 64))) (ak 1))))))
theorem yO{a:Addr}{c:Int}{m x2:L}{k4:Fl->Ev->Prop}:∀(items:List D)(sd dr:Int)(j:Nat)(x4:L),j+items.length<=100->0<=sd->sd<2147483647->0<=dr->dr<2^(40*j) ->
  (∀sd' dr' x',0<=sd'->sd' < 2147483647->0<=dr'->k4 .nx [.own a [.int c,.int sd',.bl false],m,x2,.d (.int dr'),x']) ->
  cu (bj 4) jX items [.own a [.int c,.int sd,.bl false],m,x2,.d (.int dr),x4] k4
 |[],sd,dr,j,x4,_,h0,h1,h2,h3,h=>h sd dr x4 h0 h1 h2
 | y::items,sd,dr,j,x4,hl,h0,h1,h2,h3,h=>by
  unfold cu jX;walk_at "w";obtain⟨r0,r1⟩:=jF (sd*39373+17) (m:=2147483647) xp;generalize (sd*39373+17).fmod 2147483647=s' at r0 r1 ⊢;obtain⟨q0,q1⟩:=jF (s'*s') (m:=2147483629) xp;generalize (s'*s').fmod 2147483629=t' at q0 q1 ⊢;have hl':j+(items.length+1)<=100:=hl;have b1:dF sd:=zL (n:=40) h0 xL xp;have b2:dF s':=zL (n:=40) r0 xL xp;have b3:dF dr:=zL (n:=40*j) h2 h3 xL;have b4:dF 39373:=bF xp;have b5:dF 2147483629:=bF xp;refine⟨b1,b4,xp,b3,b5,b2,b2,xp,?_⟩;refine yO items s' (dr*2147483629+t') (j+1) _ xL r0 r1 xL ?_ h;have e:(2:Int)^(40*(j+1))=2^(40*j)*1099511627776:=by rw[Nat.mul_succ,Int.pow_add];rfl
  omega
theorem wR:∀ls k4,ls.length=2->aV ls k4->oj (ls++List.replicate 3 .un) (aY ls k4):=by
 rintro ls k4 - ⟨a,xs,m,rfl,⟨c,sd,t,rfl,h0,h1⟩,hm,hM,h⟩;unfold oj;have hm0:m≠0:=by omega
 have hmz:=xZ xL hM
 cases t with
 | true =>
  walk_at "w";obtain⟨r0,r1⟩:=jF c hm;exact⟨hm0,hm0,hmz,_,jv p4 (aj aP),h _ _ ⟨_,_,_,rfl,h0,h1⟩ r0 r1⟩
 | false =>
  walk_at "w";refine⟨xp,xp,xp,bF xp,bF (by split<;>decide),⟨by split<;>decide,by split<;>decide⟩,?_⟩;refine yO (c:=c) _ sd 0 0 _ (by simp only[zr,UN,Vc];split<;>decide) h0 h1 xp xp λsd' dr' x' g0 g1 g2=>?_;walk_at "w";obtain⟨r0,r1⟩:=jF (dr'.fdiv 64) hm;exact⟨xp,xp,hm0,_,jv p4 (aj aP),h _ _ ⟨_,_,_,rfl,g0,g1⟩ r0 r1⟩
def jY:FS:=λls k4=>∃(a:Addr)(xs:List D)(many:Nat),ls=[.own a xs,.d (.int many)]/\uy xs/\many<=26 /\
 ∀(zs:List Str)(c:Addr)(ys:List D),uy ys->zs.length=many->(∀z∈zs,Cn z)->zs.Nodup->k4 (.own c (zs.map .str)) [.own a ys,.d (.int many)]
def mO:W L:=(ay dO (ay dO (HY (ak 1) none (some (ak 2))) (ay aM (ak 3) (ay gX (ay dO (ak 4) (ak 0)) (wC (.int 26))))) (HY (ak 1) (some (ay dO (ak 2) (wC (.int 1)))) none))
def mP:W Fl:=(bu (kL 1 [3,4,2,5] (uC (ak 1)) (bj 0) kK mO))
def mQ:W Fl:=(aW (bz 5 (bB (b8 aV 0 0 (pS 0 (aq (wC (.int 26)) aH)))))
  mP)
def mR:W L:=(ay aM (ak 1) (b8 aV 0 2 (pS 2 (aq (wC (.int 26)) aH))))
def mS:W Fl:=(aW (bz 4 (bB (b8 aV 0 0 (pS 0 (aq (bB (aZ cZ (aq (ak 3) aH))) aH)))))
  mQ)
def mT:W Fl:=(aW (bz 3 (bB (JC "" (kL 1 [2,0] (uC (ay dO (wC (.int 1)) (b8 aV 0 0 (pS 0 (aq (wC (.int 8)) aH))))) (bj 0) kK mR))))
  mS)
def lA:W Fl:=(aW (bz 2 (wC (.str "abcdefghijklmnopqrstuvwxyz")))
  mT)
theorem uN:∀ls k4,ls.length=2->jY ls k4->lA (ls++List.replicate 4 .un) (aY ls k4):=by
 rintro ls k4 - ⟨a,xs,many,rfl,hx,hm,h⟩;unfold lA;walk_at "w";unfold mT;walk_at "w";refine⟨a,xs,8,rfl,hx,xp,xp,λr ys hy r0 r1=>⟨ys,rfl,?_⟩⟩;walk_at "w";refine⟨⟨xL,xL⟩,?_⟩;rw[me];refine⟨by rw[UN,Vc];exact UT (show(1+r).toNat<=8 by omega) xp,?_⟩;refine vY _ (λj Z acc=>∃(l:L)(ys:List D)(cs:List Nat),Z=[l,.d (.str v5),.own a ys]/\uy ys/\acc=cs.map (λc=>D.str ⟨#[c]⟩)/\cs.length=j/\∀c∈cs,tD c) _ _ ⟨_,ys,[],rfl,hy,rfl,rfl,λc hc=>by simp at hc⟩ ?_ ?_
 .
  rintro j x Z acc hx ⟨l,ys,cs,rfl,hy,rfl,hl,hc⟩ Q hQ;unfold kK mR;walk_at "w";refine⟨a,ys,26,rfl,hy,xp,xp,λq ws hw q0 q1=>⟨ws,rfl,xp,_,vi q0 q1,?_⟩⟩;refine hQ _ _ ⟨_,ws,cs++[q.toNat+97],rfl,hw,x_,by simp[hl],λc hm=>?_⟩;rcases Vg.mp hm with hm|hm
  . exact hc c hm
  . rw[Vx.mp hm];unfold tD;omega
 .
  rintro Z acc ⟨l,ys,cs,rfl,hy,rfl,hl,hc⟩;rw[UN,Vc]at hl;walk_at "w";intro aa;refine⟨cs.map λc=>⟨#[c]⟩,x_,by rw[Bl,UN];show cs.length+cs.length*0<=_;omega,?_⟩
  have hb:Cn (Txt.join "" (cs.map λc=>(⟨#[c]⟩:Str))):=by
   refine⟨?_,?_,?_⟩
   . rw[p7];omega
   . rw[p7];omega
   . rw[p7];exact hc
  generalize Txt.join "" (cs.map λc=>(⟨#[c]⟩:Str))=base at hb ⊢;have hbl:=mh base;have hb1:=hb.lo;have hb2:=hb.hi;unfold mS;walk_at "w";refine⟨UT (show base.length<=8 by omega) xp,a,ys,base.length,rfl,hy,xL,xL,λp ws hw p0 p1=>⟨ws,rfl,?_⟩⟩;unfold mQ;walk_at "w";refine⟨a,ws,26,rfl,hw,xp,xp,λt vs hv t0 t1=>⟨vs,rfl,?_⟩⟩;unfold mP;walk_at "w";refine⟨⟨xL,xL⟩,?_⟩;rw[me];refine⟨by rw[UN,Vc];exact UT (show((many:Int)).toNat<=26 by omega) xp,?_⟩;refine oU (h:=λk=>D.str (nameAt base p.toNat t.toNat k)) _ _ _ (λk hk Q q=>?_) λl'=>?_
  .
   have hk:k<many:=by have:=Vd.mp hk;omega
   unfold mO;walk_at "w";refine⟨UT (show base.length<=8 by omega) xp,xp,xp,_,vi (i:=(t+(k:Int)).fmod 26) (jF _ xp).1 (jF _ xp).2,?_⟩;have e1:=GQ (x:=base) p0 xL;have e2:=Cm (x:=base) (i:=p+1) xL xL;have l1:(Txt.slice base none (some p)).length<=8:=by rw[mh,e1,Wa];omega
   have l2:(Txt.slice base (some (p+1)) none).length<=8:=by rw[mh,e2,VV];omega
   have e3:((t+(k:Int)).fmod 26).toNat=(t.toNat+k) % 26:=by rw[Va _ xp];omega
   have e4:Txt.slice base none (some p)++(⟨#[((t+(k:Int)).fmod 26).toNat+97]⟩:Str)++Txt.slice base (some (p+1)) none=nameAt base p.toNat t.toNat k:=by
    apply Kh;rw[oV,oV,e1,e2,e3];have:(p+1).toNat=p.toNat+1:=by omega
    simp[L2.nameAt,this]
   have one:∀c:Nat,(⟨#[c]⟩:Str).length=1:=λ_=>rfl;have lc:(Txt.slice base none (some p)++(⟨#[((t+(k:Int)).fmod 26).toNat+97]⟩:Str)).length<=9:=by rw[mh,oV,Vk,<- mh,<- mh,one];omega
   refine⟨UT (show _<=9 by rw[one];omega) xp,UT (show base.length<=8 by omega) xp,UT (Nat.add_le_add lc l2) xp,?_⟩;rw[e4];exact q
  .
   walk_at "w";intro c;refine⟨_,jv (ys:=vs) x_ (aj aP),?_⟩;have e:List.map (λk=>D.str (nameAt base p.toNat t.toNat k)) (List.range ((many:Int)).toNat)=((List.range many).map λk=>nameAt base p.toNat t.toNat k).map D.str:=by rw[Vn,VL];rfl
   rw[e];refine h _ c vs hv x_ (λz hz=>?_) (yi List.nodup_range λx hx y hy=>?_)
   . obtain⟨k,_,rfl⟩:=VA.mp hz;exact D9 hb xL
   . exact Co xL (by have:=Vd.mp hx;omega) (by have:=Vd.mp hy;omega)
def cU:FS:=λls k4=>∃t b:Int,ls=[.d (.int t),.d (.int b)]/\b≠0/\b.natAbs<2^9000/\k4 (.d (Rh (Rat.divInt t b))) ls
def qX:W Fl:=(Nz 2 3 (ay gX (ak 3) (ak 2)) (ak 2))
def qx:W Fl:=(aW (bz 2 (bB (aZ zu (aq (ak 0) aH))))
  (aW (bz 3 (bB (aZ zu (aq (ak 1) aH))))
  (aW (sI (aN (ay uE (ak 2) (wC (.int 0)))) qX)
  (aW (QZ (aN (ay uw (ak 1) (wC (.int 0)))) (bz 3 (ay mw (wC (.int 0)) (ak 3))) bA)
  (bu (ju (aq (ay uD (ak 0) (ak 3)) (aq (ay uD (ak 1) (ak 3)) aH))))))))
theorem yP:∀ls k4,ls.length=2->cU ls k4->qx (ls++List.replicate 2 .un) (aY ls k4):=by
 rintro ls k4 - ⟨t,b,rfl,hb,hz,h⟩;unfold qx;walk_at "w";have h1:=A3 (t:=t) hb;have h2:=U1 (A4 (t:=t) hb) hz
 have Qd:∀{g:Int}{Z:Ev},g=dn t b->g≠0/\g.natAbs<2^9000/\g≠0/\g.natAbs<2^9000/\2<=sizeLine/\aY [.d (.int t),.d (.int b)] k4 (.rt (.d (.tup [.int (t.fdiv g),.int (b.fdiv g)]))) Z:=λ{g Z} e=>by
  have e1:g≠0:=by rw[e];exact h1
  have e2:g.natAbs<2^9000:=by rw[e];exact h2
  refine⟨e1,e2,e1,e2,xp,_,aj (aj aP),?_⟩;rw[Bi hb e];exact h
 refine⟨λn Z=>∃x y:Int,Z=[.d (.int t),.d (.int b),.d (.int x),.d (.int y)]/\0<=x/\0<=y/\Int.gcd x y=Int.gcd t b/\n=x.natAbs,⟨_,_,_,rfl,by split<;>omega,by split<;>omega,?_,rfl⟩,?_⟩
 .
  have e1:(if t<0 then -t else t)=(t.natAbs:Int):=by split<;>omega
  have e2:(if b<0 then -b else b)=(b.natAbs:Int):=by split<;>omega
  rw[e1,e2];simp[Int.gcd]
 .
  rintro n Z ⟨x,y,rfl,x0,y0,hg,rfl⟩;unfold qX;walk_at "w";split
  .
   rename_i hx;have hx:x≠0:=by simpa using hx
   refine⟨hx,_,mI y hx,_,_,rfl,(jF y xL).1,x0,?_,rfl⟩;rw[Int.gcd_comm,A2,Int.gcd_comm];exact hg
  .
   rename_i hx;have hx:x=0:=by simpa using hx
   subst hx;have hy:y=(Int.gcd t b:Int):=by rw[<- hg,Int.gcd_zero_left];omega
   split
   . rename_i hlt;exact Qd (by simp[dn,hlt,hy])
   . rename_i hlt;exact Qd (by simp[dn,hlt,hy])
def dJ:FS:=λls k4=>∃(a:Addr)(xs:List D)(least kind:Int),ls=[.own a xs,.d (.int least),.d (.int kind)]/\uy xs/\0<=least/\least<=1/\0<=kind/\kind<5 /\
 ∀(q:Rat)(ys:List D),uy ys->0<=q->(least=1->0<q)->RB 60 q->k4 (.d (Rh q)) [.own a ys,.d (.int least),.d (.int kind)]
def lB:W Fl:=(bu (aI cU (aq (ak 4) (aq (ak 3) aH))))
def lC:W Fl:=(aW (bz 4 (bB (ay dO (ak 1) (b8 aV 0 0 (pS 0 (aq (ay aM (qL (aq (wC (.int 3)) (aq (wC (.int 10)) (aq (wC (.int 10)) (aq (wC (.int 40)) (aq (ay B4 (wC (.int 10)) (wC (.int 12))) aH)))))) (ak 2)) aH))))))
  lB)
def jZ:W Fl:=(aW (bz 3 (bB (ay dO (wC (.int 1)) (b8 aV 0 0 (pS 0 (aq (ay aM (qL (aq (wC (.int 1)) (aq (wC (.int 1)) (aq (wC (.int 4)) (aq (wC (.int 12)) (aq (wC (.int 12)) aH)))))) (ak 2)) aH))))))
  lC)
theorem ET{t b:Int}(h0:0<=t)(h1:t<2^59)(h2:0<b)(h3:b<2^59):0<=Rat.divInt t b/\(0<t->0<Rat.divInt t b)/\RB 60 (Rat.divInt t b):=by
 have e:=Rat.divInt_nonneg (a:=t) (b:=b) h0 xL;refine⟨e,λht=>?_,RB.of_divInt xL ?_ ?_⟩
 .
  refine Rat.lt_of_le_of_ne e λz=>?_;have:Rat.divInt 0 1=Rat.divInt t b:=by rw[<- z];rfl
  rw[Rat.divInt_eq_divInt_iff xp xL]at this;omega
 .
  have:(2:Int)^59=((2^59:Nat):Int):=by decide
  have:(2:Nat)^59<2^60:=by decide
  omega
 .
  have:(2:Int)^59=((2^59:Nat):Int):=by decide
  have:(2:Nat)^59<2^60:=by decide
  omega
theorem OD{k:Int}(h0:0<=k)(h1:k<5):∃m:Int,Qz [D.int 1,.int 1,.int 4,.int 12,.int 12] k=some (.int m)/\1<=m/\m<=12:=by
 obtain rfl|rfl|rfl|rfl|rfl:k=0∨k=1∨k=2∨k=3∨k=4:=by omega
 all_goals exact⟨_,rfl,xp,xp⟩
theorem OE{k:Int}(h0:0<=k)(h1:k<5):∃m:Int,Qz [D.int 3,.int 10,.int 10,.int 40,.int (10^12)] k=some (.int m)/\1<=m/\m<=10^12:=by
 obtain rfl|rfl|rfl|rfl|rfl:k=0∨k=1∨k=2∨k=3∨k=4:=by omega
 all_goals exact⟨_,rfl,xp,xp⟩
theorem ue:∀ls k4,ls.length=3->dJ ls k4->jZ (ls++List.replicate 2 .un) (aY ls k4):=by rintro ls k4 - ⟨a,xs,least,kind,rfl,hx,l0,l1,k0,k1,h⟩;obtain⟨m1,e1,m10,m11⟩:=OD k0 k1;obtain⟨m2,e2,m20,m21⟩:=OE k0 k1;unfold jZ;walk_at "w";refine⟨xp,λ_=>⟨_,e1,a,xs,m1,rfl,hx,xL,xL,λr ys hy r0 r1=>⟨ys,rfl,?_⟩⟩⟩;unfold lC;walk_at "w";refine⟨xp,xp,xp,xp,λ_=>⟨_,e2,a,ys,m2,rfl,hy,xL,xL,λs zs hz s0 s1=>⟨zs,rfl,?_⟩⟩⟩;unfold lB;walk_at "w";obtain⟨a1,a2,a3⟩:=ET (t:=least+s) (b:=1+r) xL xL xL xL;exact⟨_,_,rfl,xL,xZ xL xL,_,jv x_ (aj (aj aP)),h _ zs hz a1 (λe=>a2 xL) a3⟩
def j2:FS:=λls k4=>∃(a:Addr)(xs:List D)(n:Nat)(kind:Int),ls=[.own a xs,.d (.int n),.d (.int kind)]/\uy xs/\1<=n/\n<=1000/\0<=kind/\kind<5 /\
 ∀(qs:List Rat)(c:Addr)(ys:List D),uy ys->qs.length=n->(∀q∈qs,0<q/\RB 60 q)->k4 (.own c (qs.map Rh)) [.own a ys,.d (.int n),.d (.int kind)]
def mU:W Fl:=(aW (bz 6 (bB (b8 dJ 0 0 (pS 0 (aq (wC (.int 1)) (aq (ak 2) aH))))))
  (sF (F0 5 (ay aM (qL (aq (ak 4) (aq (ak 6) aH))) (aZ xC (aq (ay pN (ak 3) (wC (.int 2))) aH))))))
def mV:W Fl:=(bu (nC 5))
def mW:W Fl:=(aW (sI (aN (ay uw (eZ 5 (Jt 5) (aZ cZ (aq (ak 5) aH))) (ak 1))) mU)
  mV)
def iT:W Fl:=(aW (bz 5 (qL (aq (ak 4) aH)))
  mW)
def mX:W Fl:=(aW (QZ (aN (ay pN (ak 3) (wC (.int 0)))) (bz 4 (ju (aq (wC (.int 1)) (aq (wC (.int 1)) aH)))) bA)
  iT)
def mY:W Fl:=(aW (bz 4 (bB (b8 dJ 0 0 (pS 0 (aq (wC (.int 1)) (aq (ak 2) aH))))))
  mX)
def lD:W Fl:=(aW (bz 3 (bB (b8 aV 0 0 (pS 0 (aq (wC (.int 3)) aH)))))
  mY)
theorem uO:∀ls k4,ls.length=3->j2 ls k4->lD (ls++List.replicate 4 .un) (aY ls k4):=by
 rintro ls k4 - ⟨a,xs,n,kind,rfl,hx,n1,n2,k0,k1,h⟩;have one:Rh 1=.tup [.int 1,.int 1]:=rfl
 have rest:∀(alike:Int)(p:Rat)(ys:List D),uy ys->0<p->RB 60 p ->
   iT [.own a ys,.d (.int n),.d (.int kind),.d (.int alike),.d (Rh p),.un,.un] (aY [.own a xs,.d (.int n),.d (.int kind)] k4):=by
  intro alike p ys hy hp hb;unfold iT;walk_at "w";refine⟨xp,λc=>?_⟩;unfold mW;walk_at "w";refine⟨λm Z=>∃(qs:List Rat)(zs:List D)(l:L),Z=[.own a zs,.d (.int n),.d (.int kind),.d (.int alike),.d (Rh p),.own c (qs.map Rh),l]/\uy zs/\qs.length<=n/\m=n-qs.length/\∀q∈qs,0<q/\RB 60 q,⟨_,[p],ys,_,rfl,hy,n1,rfl,by intro q hq;rw[Vx.mp hq];exact⟨hp,hb⟩⟩,?_⟩;rintro m Z ⟨qs,zs,l,rfl,hz,hl,rfl,hq⟩;walk_at "w"
  try rw[UN]
  split
  .
   rename_i hlt;unfold mU;walk_at "w";refine⟨a,zs,1,kind,rfl,hz,xp,xp,k0,k1,λq ws hw q0 q1 qb=>⟨ws,rfl,?_⟩⟩;walk_at "w";have hs:qs.length<sizeLine:=by exact U1 (show qs.length<=1000 by omega) xp
   have more:∀q':Rat,0<q'->RB 60 q'->∃m,m<n-qs.length/\∃(qs':List Rat)(zs:List D)(l:L),[L.own a ws,.d (.int n),.d (.int kind),.d (.int alike),.d (Rh p),.own c (qs.map Rh++[Rh q']),.d (Rh q)]=[.own a zs,.d (.int n),.d (.int kind),.d (.int alike),.d (Rh p),.own c (qs'.map Rh),l]/\uy zs/\qs'.length<=n/\m=n-qs'.length/\∀q∈qs',0<q/\RB 60 q:=by
    intro q' p0 pb;refine⟨n-(qs++[q']).length,by rw[Vk];simp only[List.length_singleton];omega,qs++[q'],ws,.d (Rh q),by rw[VQ];rfl,hw,by rw[Vk];simp only[List.length_singleton];omega,rfl,λz hz=>?_⟩;rcases Vg.mp hz with hz|hz
    . exact hq z hz
    . rw[Vx.mp hz];exact⟨p0,pb⟩
   refine⟨xp,λ_=>?_⟩;by_cases h2:alike=2
   . refine⟨Rh q,?_,hs,more q (q1 rfl) qb⟩;simp[h2,xY]
   . refine⟨Rh p,?_,hs,more p hp hb⟩;simp[h2,xX]
  .
   have e:qs.length=n:=by omega
   unfold mV;walk_at "w";exact⟨_,jv x_ (aj (aj aP)),h qs c zs hz e hq⟩
 unfold lD;walk_at "w";refine⟨a,xs,3,rfl,hx,xp,xp,λr ys hy r0 r1=>⟨ys,rfl,?_⟩⟩;unfold mY;walk_at "w";refine⟨a,ys,1,kind,rfl,hy,xp,xp,k0,k1,λq zs hz q0 q1 qb=>⟨zs,rfl,?_⟩⟩;unfold mX;walk_at "w";split
 . exact⟨xp,rest r 1 zs hz xp ⟨xp,xp⟩⟩
 . exact rest r q zs hz (q1 rfl) qb
def lE:FS:=λls k4=>∃(a:Addr)(xs:List D)(shape k:Int)(n:Nat),ls=[.own a xs,.d (.int shape),.d (.int n),.d (.int k)]/\uy xs/\2<=n/\n<=1000/\0<=k/\k<=1000 /\
 ∀(i j:Nat)(ys:List D),uy ys->i<n->j<n->i≠j->k4 (.d (.tup [.int i,.int j])) [.own a ys,.d (.int shape),.d (.int n),.d (.int k)]
def o9:W Fl:=(bu (ju (aq (ak 4) (aq (ak 5) aH))))
def pd:W Fl:=(aW (QZ (aN (ay pN (ak 1) (wC (.int 3)))) (bu (ju (aq (wC (.int 0)) (aq (bB (ay dO (wC (.int 1)) (ay gX (ak 5) (ay mw (ak 2) (wC (.int 1)))))) aH)))) bA)
  o9)
def pf:W Fl:=(aW (QZ (aN (ay pN (ak 1) (wC (.int 2)))) (bu (ju (aq (bB (ay bK (ay gX (ak 3) (wC (.int 2))) (ay mw (ak 2) (wC (.int 1))))) (aq (bB (ay bK (ay mw (wC (.int 1)) (ay gX (ak 3) (wC (.int 2)))) (ay mw (ak 2) (wC (.int 1))))) aH)))) bA)
  pd)
def ph:W Fl:=(aW (QZ (aN (ay pN (ak 1) (wC (.int 1)))) (bu (ju (aq (ay gX (ak 3) (ak 2)) (aq (ay gX (ay dO (ak 3) (ay uD (ak 2) (wC (.int 2)))) (ak 2)) aH)))) bA)
  pf)
def pj:W Fl:=(aW (bz 5 (ay gX (ay dO (ay dO (ak 4) (wC (.int 1))) (b8 aV 0 0 (pS 0 (aq (ay mw (ak 2) (wC (.int 1))) aH)))) (ak 2)))
  ph)
def om:W Fl:=(aW (bz 4 (bB (b8 aV 0 0 (pS 0 (aq (ak 2) aH)))))
  pj)
theorem wU:∀ls k4,ls.length=4->lE ls k4->om (ls++List.replicate 2 .un) (aY ls k4):=by
 rintro ls k4 - ⟨a,xs,shape,k,n,rfl,hx,n2,n3,k0,k1,h⟩;have Qd:∀(ys:List D)(i j:Int)(Z:Ev),uy ys->0<=i->i<n->0<=j->j<n->i≠j->.own a ys∈Z->aY [.own a xs,.d (.int shape),.d (.int n),.d (.int k)] k4 (.rt (.d (.tup [.int i,.int j]))) Z:=by intro ys i j Z hy i0 i1 j0 j1 hij hm;have:=h i.toNat j.toNat ys hy xL xL xL;rw[Int.toNat_of_nonneg i0,Int.toNat_of_nonneg j0]at this;exact⟨_,jv hm (aj (aj (aj aP))),this⟩
 unfold om;walk_at "w";refine⟨a,xs,n,rfl,hx,xL,xL,λr ys hy r0 r1=>⟨ys,rfl,?_⟩⟩;unfold pj;walk_at "w";refine⟨a,ys,n-1,rfl,hy,xL,xL,λs zs hz s0 s1=>⟨zs,rfl,?_⟩⟩;walk_at "w";refine⟨xL,?_⟩;have e1:=Va (r+1+s) (b:=n) xL;have e2:=Va k (b:=n) xL;have e3:=Int.fdiv_eq_ediv_of_nonneg (n:Int) (b:=2) xL;have e4:=Va (k+(n:Int) / 2) (b:=n) xL;have e5:=Va k (b:=2) xL;have e6:=Va ((r+1+s) % (n:Int)) (b:=(n:Int)-1) xL;rw[e1];have o0:=Wz (r+1+s) (b:=n) xL;have o1:=Wu (r+1+s) (b:=n) xL
 have o2:(r+1+s) % (n:Int)≠r:=λz=>by
  by_cases q:r+1+s<n
  . rw[Int.emod_eq_of_lt xL q]at z;omega
  .
   have:(r+1+s) % (n:Int)=r+1+s-n:=by rw[<- Int.sub_emod_right,Int.emod_eq_of_lt xL xL]
   omega
 unfold ph;walk_at "w";split
 .
  rw[e2,e3,e4];refine⟨xL,xp,xp,xL,xp,Qd zs _ _ _ hz (Wz _ xL) (Wu _ xL) (Wz _ xL) (Wu _ xL) (λz=>?_) x_⟩;have h1:(k+(n:Int) / 2-k) % n=0:=Int.emod_eq_emod_iff_emod_sub_eq_zero.mp z.symm;have e9:k+(n:Int) / 2-k=n / 2:=by omega
  rw[e9,Int.emod_eq_of_lt xL xL]at h1;omega
 .
  unfold pf;walk_at "w";split
  .
   rw[e5];have m0:=Int.emod_two_eq k;refine⟨xp,bF xL,bF xL,xp,bF xL,bF xL,xp,?_⟩;rcases m0 with m0|m0
   . rw[m0];exact Qd zs _ _ _ hz xL xL xL xL xL x_
   . rw[m0];exact Qd zs _ _ _ hz xL xL xL xL xL x_
  .
   unfold pd;walk_at "w";split
   . rw[e6];have p0:=Wz ((r+1+s) % (n:Int)) (b:=(n:Int)-1) xL;have p1:=Wu ((r+1+s) % (n:Int)) (b:=(n:Int)-1) xL;exact⟨xL,xp,Qd zs _ _ _ hz xL xL xL xL xL x_⟩
   . unfold o9;walk_at "w";exact⟨xp,Qd zs _ _ _ hz xL xL xL xL (VB o2) x_⟩
structure Drawn (most count:Nat) (R:aQ):Prop where
 ok:R.Ok
 hi:R.n<=most
 few:R.asks.length<=count
 nms:(∀a∈R.asks,Cn a.nm)/\(R.asks.map (·.nm)).Nodup
 tt:∀a∈R.asks,RB 60 a.size
theorem Drawn.nt{m c:Nat}{R:aQ}(h:Drawn m c R):∀a∈R.asks,Cn a.nm/\RB 60 a.size:=λa ha=>⟨h.nms.1 a ha,h.tt a ha⟩
def lF:FS:=λls k4=>∃(ns:List Int)(at_ most count:Nat),ls=[.d (.lst (ns.map .int)),.d (.int at_),.d (.int most),.d (.int count)]/\at_<=90/\2<=most/\most<=12/\count<=20 /\
 ∀R:aQ,Drawn most count R->k4 (.d (aJ R)) ls
def j3:W Fl:=(aW (xJ [13,14] (b8 lE 0 4 (pS 4 (aq (ak 8) (aq (ak 5) (aq (ak 12) aH))))))
  (sF (F0 11 (ju (aq (ay aM (ak 9) (ak 12)) (aq (ak 13) (aq (ak 14) (aq (bB (b8 dJ 0 4 (pS 4 (aq (wC (.int 0)) (aq (ay aM (ak 7) (wC (.int 1))) aH))))) aH))))))))
def pk:W Fl:=(bu (ju (aq (ak 10) (aq (ak 11) aH))))
def pq:W Fl:=(aW (qM (uC (ak 6)) (bj 12) j3)
  pk)
def pA:W Fl:=(aW (bz 11 (qL aH))
  pq)
def pB:W Fl:=(aW (bz 4 (aI c9 (aq (ak 0) (aq (bB (ay dO (ak 1) (wC (.int 2)))) aH))))
  pA)
def pC:W Fl:=(aW (bz 10 (bB (aI j2 (aq (aI c9 (aq (ak 0) (aq (bB (ay dO (ak 1) (wC (.int 1)))) aH))) (aq (ak 5) (aq (ay aM (ak 7) (wC (.int 0))) aH))))))
  pB)
def pD:W Fl:=(aW (bz 9 (bB (b8 jY 0 4 (pS 4 (aq (ak 6) aH)))))
  pC)
def pE:W Fl:=(aW (bz 8 (bB (b8 aV 0 4 (pS 4 (aq (wC (.int 6)) aH)))))
  pD)
def pF:W Fl:=(aW (bz 7 (bB (qL (aq (bB (b8 aV 0 4 (pS 4 (aq (wC (.int 5)) aH)))) (aq (bB (b8 aV 0 4 (pS 4 (aq (wC (.int 5)) aH)))) aH)))))
  pE)
def pG:W Fl:=(aW (bz 6 (bB (b8 aV 0 4 (pS 4 (aq (bB (ay dO (ak 3) (wC (.int 1)))) aH)))))
  pF)
def pH:W Fl:=(aW (bz 5 (bB (ay dO (wC (.int 2)) (b8 aV 0 4 (pS 4 (aq (ay mw (ak 2) (wC (.int 1))) aH))))))
  pG)
def oo:W Fl:=(aW (bz 4 (aI c9 (aq (ak 0) (aq (ak 1) aH))))
  pH)
theorem EU{S a1 m3 c3 rms:D}{b c:Addr}{n shape kind:Nat}{zs:List Str}{k4:Fl->Ev->Prop}(hn:2<=n)(hn2:n<=12)(hk:kind<5)(k0:Nat)(hzl:zs.length<=20)(hz:∀z∈zs,Cn z)(xs:List D)(hx:uy xs)(x13 x14:L)
  (Qd:∀(as:List RJ)(ys:List D)(x12 x13 x14:L),(∀a∈as,gC n a/\RB 60 a.size)->as.map (·.nm)=zs->k4 .nx [.d S,.d a1,.d m3,.d c3,.own b ys,.d (.int n),.d (.int (zs.length:Int)),.d (.lst [.int k0,.int kind]),.d (.int shape),.d (.lst (zs.map .str)),.d rms,.own c (as.map kg),x12,x13,x14]) :
  cu (bj 12) j3 ((List.range zs.length).map λ(i:Nat)=>D.int (i:Int)) [.d S,.d a1,.d m3,.d c3,.own b xs,.d (.int n),.d (.int (zs.length:Int)),.d (.lst [.int k0,.int kind]),.d (.int shape),.d (.lst (zs.map .str)),.d rms,.own c [],.un,x13,x14] k4:=by
 refine cF _ (λj Z=>∃(as:List RJ)(ys:List D)(x12 x13 x14:L),Z=[.d S,.d a1,.d m3,.d c3,.own b ys,.d (.int n),.d (.int (zs.length:Int)),.d (.lst [.int k0,.int kind]),.d (.int shape),.d (.lst (zs.map .str)),.d rms,.own c (as.map kg),x12,x13,x14]/\uy ys/\(∀a∈as,gC n a/\RB 60 a.size)/\as.map (·.nm)=zs.take j) _ ⟨[],xs,_,_,_,rfl,hx,λa ha=>by simp at ha,rfl⟩ ?_ ?_
 .
  rintro j x Z hj ⟨as,ys,x12,x13,x14,rfl,hy,ha,hn'⟩ Q h1 h2 h3 h4;have hj':j<zs.length:=by have:=(k5.mp hj).1;simpa using this
  have ex:x=.int (j:Int):=by rw[UU,VI hj']at hj;exact(U6 hj).symm
  subst ex;unfold j3;walk_at "w";refine⟨b,ys,shape,j,n,rfl,hy,hn,xL,xL,xL,λi k ws hw i1 k1 hik=>⟨ws,rfl,?_⟩⟩;walk_at "w";refine⟨.str zs[j],a7 hj',?_⟩;refine⟨b,ws,0,kind,rfl,hw,xp,xp,xL,xL,λq vs hv q0 _ qb=>⟨vs,rfl,?_⟩⟩;walk_at "w";have b0:as.length=j:=by have:=WG List.length hn';rw[UN,Wa]at this;omega
  refine⟨xp,by rw[b0];exact so hj' (UT hzl xp),h1 _ ⟨as++[⟨zs[j],i,k,q⟩],vs,_,_,_,by rw[VQ];rfl,hv,λa hm=>?_,?_⟩⟩
  .
   rcases Vg.mp hm with hm|hm
   . exact ha a hm
   . rw[Vx.mp hm];exact⟨⟨i1,k1,hik,q0,GS qb,(hz _ (UO hj')).ok⟩,qb⟩
  . rw[VQ,hn',List.take_succ,fI hj'];rfl
 . rintro Z ⟨as,ys,x12,x13,x14,rfl,hy,ha,hn'⟩;rw[UN,Vc,VU (US _)]at hn';exact Qd as ys x12 x13 x14 ha hn'
theorem wV:∀ls k4,ls.length=4->lF ls k4->oo (ls++List.replicate 11 .un) (aY ls k4):=by
 rintro ls k4 - ⟨ns,at_,most,count,rfl,ha,m2,m12,c20,h⟩;unfold oo;walk_at "w";refine⟨ns,at_,rfl,xL,xL,λb xs hx=>?_⟩;unfold pH;walk_at "w";refine⟨b,xs,(most:Int)-1,rfl,hx,xL,xL,λr ys hy r0 r1=>⟨ys,rfl,?_⟩⟩;unfold pG;walk_at "w";refine⟨b,ys,(count:Int)+1,rfl,hy,xL,xL,λs zs hz s0 s1=>⟨zs,rfl,?_⟩⟩;unfold pF;walk_at "w";refine⟨b,zs,5,rfl,hz,xp,xp,λk1 ws hw k10 k11=>⟨ws,rfl,?_⟩⟩;walk_at "w";refine⟨b,ws,5,rfl,hw,xp,xp,λk2 vs hv k20 k21=>⟨vs,rfl,?_⟩⟩;walk_at "w";refine⟨xp,λkk=>?_⟩;unfold pE;walk_at "w";refine⟨b,vs,6,rfl,hv,xp,xp,λsh us hu sh0 sh1=>⟨us,rfl,?_⟩⟩;unfold pD;walk_at "w";obtain⟨many,rfl⟩:=V3 s0;obtain⟨pl,epl⟩:∃pl:Nat,2+r=(pl:Int):=V3 xL;obtain⟨sh',rfl⟩:=V3 sh0;obtain⟨k1',rfl⟩:=V3 k10;obtain⟨k2',rfl⟩:=V3 k20;rw[epl];refine⟨b,us,many,rfl,hu,xL,λnms c ts ht hnl hnm hnd=>⟨ts,rfl,?_⟩⟩;unfold pC;walk_at "w";refine⟨ns,at_+1,rfl,xL,xL,λb2 xs2 hx2=>?_⟩;refine⟨b2,xs2,pl,k1',rfl,hx2,xL,xL,xL,xL,λqs c2 ys2 hy2 hql hq=>?_⟩;unfold pB;walk_at "w";refine⟨ns,at_+2,rfl,xL,xL,λb3 xs3 hx3=>?_⟩;unfold pA;walk_at "w";refine⟨xp,λc3=>?_⟩;unfold pq;walk_at "w";refine⟨⟨xL,xL⟩,?_⟩;rw[me,VL,<- hnl];refine EU (n:=pl) xL xL xL k1' xL hnm xs3 hx3 _ _ λas ys' x12 x13 x14 hao han=>?_;walk_at "w";unfold pk;walk_at "w";refine⟨xp,_,aj (aj (aj (aj aP))),h ⟨qs,as⟩ ?_⟩;have hal:as.length=nms.length:=by rw[<- han,UN]
 refine⟨⟨?_,?_,?_,hq,?_,Od (λa ha=>(hao a ha).2) (by show as.length<=20;omega)⟩,?_,?_,⟨?_,?_⟩,λa ha=>(hao a ha).2⟩
 . show 2<=qs.length;omega
 . show qs.length<=12;omega
 . show as.length<=20;omega
 . show ∀a∈as,gC qs.length a;rw[hql];exact λa ha=>(hao a ha).1
 . show qs.length<=most;omega
 . show as.length<=count;omega
 . intro a ha;exact hnm _ (by rw[<- han];exact List.mem_map_of_mem ha)
 . show(as.map (·.nm)).Nodup;rw[han];exact hnd
structure EV (R:aQ) (ps:List Rat):Prop extends Kk R ps 70 where
 tw:Tw R ps
def j4:FS:=λls k4=>∃(a:Addr)(xs:List D)(R:aQ),ls=[.own a xs,.d (aJ R)]/\uy xs/\R.Ok/\(∀a∈R.asks,RB 60 a.size)/\∀(ps:List Rat)(c:Addr)(ys:List D),uy ys->EV R ps->k4 (.own c (ps.map Rh)) [.own a ys,.d (aJ R)]
def mZ:W Fl:=(aW (bz 7 (bB (b8 aV 0 0 (pS 0 (aq (wC (.int 4)) aH)))))
  (aW (bz 8 (bB (b8 aV 0 0 (pS 0 (aq (wC (.int 13)) aH)))))
  (sF (F0 2 (ay aM (qL (aq (ju (aq (wC (.int 0)) (aq (wC (.int 1)) aH))) (aq (ak 6) (aq (bB (aI cU (aq (bB (ay bK (ay aM (ak 6) (wC (.int 0))) (ak 8))) (aq (bB (ay bK (ay aM (ak 6) (wC (.int 1))) (wC (.int 12)))) aH)))) aH)))) (aZ zv (aq (ak 7) (aq (wC (.int 2)) aH))))))))
def lG:W Fl:=(aW (bz 2 (qL aH))
  (aW (qM (uv (ay aM (ak 1) (wC (.int 1)))) (eY [3,4,5,6]) mZ)
  (bu (nC 2))))
def Uv(z p:Rat):Prop:=∃v:Int,0<=v/\v<=12/\p=z*Rat.divInt v 12
theorem OF{R:aQ}{ps:List Rat}(hl:ps.length=R.asks.length)(h:∀x∈R.asks.zip ps,Uv x.1.size x.2):Tw R ps:=λk hk=>by
 have h1:k<ps.length:=by omega
 have:=h (R.asks[k],ps[k]) (by
  rw[List.mem_iff_getElem]
  exact⟨k,by rw[VO];omega,by rw[WE]⟩)
 rw[p8 h1,Cq hk];exact this
theorem EW{s:Rat}{v:Int}(h0:0<=s)(hb:RB 60 s)(v0:0<=v)(v1:v<13):(0<=Rat.divInt (s.num*v) ((s.den:Int)*12)/\Rat.divInt (s.num*v) ((s.den:Int)*12)<=s)/\RB 70 (Rat.divInt (s.num*v) ((s.den:Int)*12)):=by
 have e:Rat.divInt (s.num*v) ((s.den:Int)*12)=s*Rat.divInt v 12:=by rw[<- V8,Vm]
 have f0:0<=Rat.divInt v 12:=Rat.divInt_nonneg v0 xp
 have f1:0<=1-Rat.divInt v 12:=by
  have e1:1-Rat.divInt v 12=Rat.divInt (12-v) 12:=by have:(1:Rat)=Rat.divInt 12 12:=rfl;rw[this,Rat.divInt_sub_divInt _ _ xp xp,Rat.divInt_eq_divInt_iff xp xp];omega
  rw[e1];exact Rat.divInt_nonneg xL xp
 have m0:=Rat.mul_nonneg h0 f0;have m1:=Rat.mul_nonneg h0 f1;have hd:=den_pos s;refine⟨⟨by rw[e];exact m0,by rw[e];grind⟩,RB.of_divInt (Int.mul_ne_zero xL xp) ?_ ?_⟩
 . rw[V6];exact so (bp (n:=10) hb.1 (show v.natAbs<2^10 by omega)) (US _)
 . rw[V6];exact so (bp (m:=60) (n:=10) (by rw[U5];exact hb.2) (show(12:Int).natAbs<2^10 by decide)) (US _)
theorem uP:∀ls k4,ls.length=2->j4 ls k4->lG (ls++List.replicate 7 .un) (aY ls k4):=by
 rintro ls k4 - ⟨a,xs,R,rfl,hx,hR,hT,h⟩;have hfew:=hR.few;unfold lG;walk_at "w";refine⟨xp,λc=>?_⟩;refine ma (enc:=kg) R.asks (λpre Z=>∃(ps:List Rat)(ys:List D)(x3 x4 x5 x6 x7 x8:L),Z=[.own a ys,.d (aJ R),.own c (ps.map Rh),x3,x4,x5,x6,x7,x8]/\uy ys/\ps.length=pre.length/\(∀x∈pre.zip ps,0<=x.2/\x.2<=x.1.size)/\(∀p∈ps,RB 70 p)/\∀x∈pre.zip ps,Uv x.1.size x.2) _ ⟨[],xs,_,_,_,_,_,_,rfl,hx,rfl,(λx hx=>by simp at hx),(λx hx=>by simp at hx),λx hx=>by simp at hx⟩ ?_ ?_
 .
  rintro pre A suf Z hsp ⟨ps,ys,x3,x4,x5,x6,x7,x8,rfl,hy,hl,hlo,hb,hw1⟩ Q h1 h2 h3 h4;have hA:gC R.n A:=hR.ask A (by rw[hsp];simp);have hAb:RB 60 A.size:=hT A (by rw[hsp];simp);have b0:pre.length<20:=by have:=WG List.length hsp;rw[Vk,V9]at this;omega
  unfold mZ;walk_at "w";refine⟨a,ys,4,rfl,hy,xp,xp,λr zs hz r0 r1=>⟨zs,rfl,?_⟩⟩;walk_at "w";refine⟨a,zs,13,rfl,hz,xp,xp,λv ws hw v0 v1=>⟨ws,rfl,?_⟩⟩;walk_at "w";obtain⟨p1,p2⟩:=EW hA.size hAb v0 v1;have hd:=den_pos A.size
  have Qd:∀p:Rat,(0<=p/\p<=A.size)->RB 70 p->Uv A.size p->Q .nx [.own a ws,.d (aJ R),.own c (ps.map Rh++[Rh p]),.d (.str A.nm),.d (.int A.one),.d (.int A.other),.d (Rh A.size),.d (.int r),.d (.int v)]:=by
   intro p hp hpb hpw;refine h1 _ ⟨ps++[p],ws,_,_,_,_,_,_,by rw[VQ];rfl,hw,by rw[Vk,Vk,hl];rfl,λx hx=>?_,λq hq=>?_,λx hx=>?_⟩
   .
    rw[VD xL]at hx;rcases Vg.mp hx with hx|hx
    . exact hlo x hx
    .
     have:x=(A,p):=by simpa using hx
     subst this;exact hp
   .
    rcases Vg.mp hq with hq|hq
    . exact hb q hq
    . rw[Vx.mp hq];exact hpb
   .
    rw[VD xL]at hx;rcases Vg.mp hx with hx|hx
    . exact hw1 x hx
    .
     have:x=(A,p):=by simpa using hx
     subst this;exact hpw
  have hsz:ps.length<sizeLine:=so (show ps.length<20 by omega) xp;refine⟨xp,hAb.bn xp,bF xL,hAb.bd xp,bF xp,A.size.num*v,(A.size.den:Int)*12,rfl,Int.mul_ne_zero xL xp,?_,?_⟩
  . rw[V6];exact so (bp (m:=60) (n:=10) (by rw[U5];exact hAb.2) (show(12:Int).natAbs<2^10 by decide)) (UW xp xp)
  .
   walk_at "w";refine⟨xp,λ_=>?_⟩;have hr:r=0∨r=1∨r=2∨r=3:=by omega
   rcases hr with rfl|rfl|rfl|rfl
   . exact⟨Rh 0,xX,hsz,Qd 0 ⟨xp,hA.size⟩ (RB.zero.mono xp) ⟨0,xp,xp,by rw[show Rat.divInt 0 12=0 from rfl,Rat.mul_zero]⟩⟩
   . exact⟨Rh A.size,xY,hsz,Qd A.size ⟨hA.size,WL⟩ (hAb.mono xp) ⟨12,xp,xp,by rw[show Rat.divInt 12 12=1 from rfl,Rat.mul_one]⟩⟩
   . exact⟨_,Gw,hsz,Qd _ p1 p2 ⟨v,v0,xL,by rw[<- V8,Vm]⟩⟩
   . exact⟨_,Gw,hsz,Qd _ p1 p2 ⟨v,v0,xL,by rw[<- V8,Vm]⟩⟩
 . rintro Z ⟨ps,ys,x3,x4,x5,x6,x7,x8,rfl,hy,hl,hlo,hb,hw1⟩;walk_at "w";exact⟨_,jv (ys:=ys) x_ (aj aP),h ps c ys hy ⟨⟨hl,hlo,hb⟩,OF hl hw1⟩⟩
def gh:FS:=λls k4=>∃p q:Rat,ls=[.d (Rh p),.d (Rh q)]/\RB 400000 p/\RB 400000 q/\p.den*q.den<2^9000/\k4 (.d (Rh (p+q))) ls
def ou:W Fl:=(bu (aI cU (aq (bB (ay dO (ay bK (ay aM (ak 0) (wC (.int 0))) (ay aM (ak 1) (wC (.int 1)))) (ay bK (ay aM (ak 1) (wC (.int 0))) (ay aM (ak 0) (wC (.int 1)))))) (aq (bB (ay bK (ay aM (ak 0) (wC (.int 1))) (ay aM (ak 1) (wC (.int 1))))) aH))))
theorem wW:∀ls k4,ls.length=2->gh ls k4->ou (ls++List.replicate 0 .un) (aY ls k4):=by rintro ls k4 - ⟨p,q,rfl,hp,hq,hz,h⟩;unfold ou;walk_at "w";refine⟨hp.bn xp,hq.bd xp,hq.bn xp,hp.bd xp,hp.bd xp,hq.bd xp,_,_,rfl,p6 p q,by rw[mf];exact hz,_,aj (aj aP),?_⟩;rw[A5];exact h
theorem EX{p q:Rat}{k4:L->List L->Prop}(hp:RB 4400 p)(hq:RB 4400 q)(h:k4 (.d (Rh (p+q))) [.d (Rh p),.d (Rh q)]):gh [.d (Rh p),.d (Rh q)] k4 :=
 ⟨p,q,rfl,hp.mono xp,hq.mono xp,so (bp hp.2 hq.2) (UW xp xp),h⟩
def de:FS:=λls k4=>∃p q:Rat,ls=[.d (Rh p),.d (Rh q)]/\RB 4400 p/\RB 4400 q/\k4 (.d (Rh (p-q))) ls
def lH:W Fl:=(bu (aI cU (aq (ay mw (ay bK (ay aM (ak 0) (wC (.int 0))) (ay aM (ak 1) (wC (.int 1)))) (ay bK (ay aM (ak 1) (wC (.int 0))) (ay aM (ak 0) (wC (.int 1))))) (aq (bB (ay bK (ay aM (ak 0) (wC (.int 1))) (ay aM (ak 1) (wC (.int 1))))) aH))))
theorem uQ:∀ls k4,ls.length=2->de ls k4->lH (ls++List.replicate 0 .un) (aY ls k4):=by
 rintro ls k4 - ⟨p,q,rfl,hp,hq,h⟩;unfold lH;walk_at "w";refine⟨hp.bn xp,hq.bd xp,hq.bn xp,hp.bd xp,hp.bd xp,hq.bd xp,_,_,rfl,p6 p q,?_,_,aj (aj aP),?_⟩
 . rw[mf];exact so (bp hp.2 hq.2) (UW xp xp)
 . rw[HX];exact h
def lI:FS:=λls k4=>∃(ps:List Rat)(s:eB),ls=[.d (.lst (ps.map Rh)),.d (RW s)]/\ps.length<=20/\s.k<ps.length/\s.l<ps.length/\s.k≠s.l/\(∀p∈ps,RB 4000 p)/\RB 4000 s.am/\∀a,k4 (.own a ((R0 ps s).map Rh)) ls
def j5:W Fl:=(QZ (aN (ay pN (ak 9) (wC (.str "on")))) (sN 7 (ak 8) (aI gh (aq (eZ 7 (y6 7 (ak 8)) (ay aM (ak 7) (ak 8))) (aq (ak 6) aH)))) (sN 7 (ak 8) (aI de (aq (eZ 7 (y6 7 (ak 8)) (ay aM (ak 7) (ak 8))) (aq (ak 6) aH)))))
def oy:W Fl:=(aW (xJ [2,3,4,5,6] (ak 1))
  (aW (bz 7 (aZ sM (aq (ak 0) aH)))
  (aW (qM (uv (qL (aq (ju (aq (ak 2) (aq (ak 3) aH))) (aq (ju (aq (ak 4) (aq (ak 5) aH))) aH)))) (eY [8,9]) j5)
  (bu (nC 7)))))
theorem BK{n k:Nat}(h:k<n):Qy n (k:Int)=some k:=by unfold Qy;rw[if_pos (by omega),if_pos (by omega)];simp
theorem yQ{x0 x1 x2 x3 x4 x5:L}{am:Rat}{a:Addr}{qs:List Rat}{k:Nat}{w:Bool}{Q:Fl->Ev->Prop}(hk:k<qs.length)(hq:RB 4400 qs[k])(ha:RB 4400 am)
  (h:Q .nx [x0,x1,x2,x3,x4,x5,.d (Rh am),.own a ((qs.set k (RZ (qs.getD k 0) w am)).map Rh),.d (.int (k:Int)),.d (.str (dD w))]) :
  j5 [x0,x1,x2,x3,x4,x5,.d (Rh am),.own a (qs.map Rh),.d (.int (k:Int)),.d (.str (dD w))] Q:=by
 rw[bM hk,List.map_set]at h;unfold RZ at h;unfold j5;walk_at "w"
 cases w with
 | true =>
  walk_at "w";refine⟨_,a7 hk,EX hq ha ?_⟩;walk_at "w";exact⟨k,BK hk,h⟩
 | false =>
  walk_at "w";refine⟨_,a7 hk,_,_,rfl,hq,ha,?_⟩;walk_at "w";exact⟨k,BK hk,h⟩
theorem wX:∀ls k4,ls.length=2->lI ls k4->oy (ls++List.replicate 8 .un) (aY ls k4):=by
 rintro ls k4 - ⟨ps,s,rfl,h20,hk,hl,hkl,hp,ha,h⟩;unfold oy;simp only[RW];walk_at "w";refine λa=>⟨xp,xp,xp,λ_=>?_⟩;have r1:=hp _ (UO hk);have r2:=hp _ (UO hl);have hl':s.l<(ps.set s.k (RZ (ps.getD s.k 0) s.kw s.am)).length:=by rw[VP];exact hl
 have e1:(ps.set s.k (RZ (ps.getD s.k 0) s.kw s.am))[s.l]=ps[s.l]:=by rw[List.getElem_set_ne hkl]
 unfold cu;refine yQ hk (r1.mono xp) (ha.mono xp) ?_;unfold cu;refine yQ hl' (by rw[e1];exact r2.mono xp) (ha.mono xp) ?_;unfold cu;walk_at "w";exact⟨_,aj (aj aP),h a⟩
noncomputable def yR(n:Nat)(a:RJ)(w:Bool):List Nat:=if w then RL n a.one a.other else RL n a.other a.one
def iC:FS:=λls k4=>∃(R:aQ)(k:Nat)(w:Bool)(hk:k<R.asks.length),ls=[.d (aJ R),.d (.int k),.d (.str (dD w))]/\R.Ok/\∀c,k4 (.own c ((yR R.n R.asks[k] w).map λ(t:Nat)=>D.int (t:Int))) ls
def j6:W Fl:=(aW (sF (F0 7 (ak 4)))
  (bz 4 (ay gX (ay dO (ak 4) (wC (.int 1))) (aZ cZ (aq (ay aM (ak 0) (wC (.int 0))) aH)))))
def oz:W Fl:=(aW (xJ [3,4,5,6] (ay aM (ay aM (ak 0) (wC (.int 1))) (ak 1)))
  (aW (QZ (aN (ay pN (ak 2) (wC (.str "back")))) (Nz 4 5 (ak 5) (ak 4)) bA)
  (aW (bz 7 (qL aH))
  (aW (sI (aN (ay uE (ak 4) (ak 5))) j6)
  (bu (nC 7))))))
theorem uR{f:Nat->Nat}{s m:Nat}(h:s<m):((List.range m).map f).take (s+1)=((List.range m).map f).take s++[f s]:=by rw[List.take_succ,UU,VI h];rfl
theorem yS{R:aQ}(hR:R.Ok){x1 x2 x3 x6:L}{i j:Nat}(hi:i<R.n)(hj:j<R.n)(c:Addr){k4:Fl->Ev->Prop}(Qd:k4 .nx [.d (aJ R),x1,x2,x3,.d (.int j),.d (.int j),x6,.own c ((RL R.n i j).map λ(t:Nat)=>D.int (t:Int))]) :
  sI (aN (ay uE (ak 4) (ak 5))) j6 [.d (aJ R),x1,x2,x3,.d (.int i),.d (.int j),x6,.own c []] k4:=by
 have hhi:=hR.hi;have hlo:=hR.lo;refine⟨λm Z=>∃s,Z=[.d (aJ R),x1,x2,x3,.d (.int (((i+s) % R.n:Nat):Int)),.d (.int j),x6,.own c (((RL R.n i j).take s).map λ(t:Nat)=>D.int (t:Int))]/\s<=RM R.n i j/\m=RM R.n i j-s,⟨_,0,by rw[Nat.add_zero,Nat.mod_eq_of_lt hi];rfl,Vv _,rfl⟩,?_⟩;rintro m Z ⟨s,rfl,hs,rfl⟩;have hf:RM R.n i j<R.n:=WH _ xL;have hfe:=qR hi hj
 have hm:(i+s) % R.n=if i+s<R.n then i+s else i+s-R.n:=oW xL
 walk_at "w";by_cases hne:(i+s) % R.n=j
 .
  have hs':s=RM R.n i j:=by rw[hm]at hne;rw[hfe]at hs ⊢;split at hne<;>split at hs<;>split<;>omega
  rw[if_neg (λz=>z (by rw[hne]))];rw[VU (by rw[vk];omega),hne];exact Qd
 .
  have hs':s<RM R.n i j:=by refine Nat.lt_of_le_of_ne hs λz=>hne ?_;rw[z,hfe]at hm;rw[z,hfe,hm];split<;>split<;>omega
  rw[if_pos (λz=>hne (Int.ofNat_inj.mp z))];unfold j6;walk_at "w";refine⟨?_,xL,?_⟩
  . rw[Wa];exact U1 (Nat.min_le_left _ _) (so (show s<12 by omega) xp)
  refine⟨RM R.n i j-(s+1),xL,s+1,?_,hs',rfl⟩;have e1:(RL R.n i j).take (s+1)=(RL R.n i j).take s++[(i+s) % R.n]:=uR hs';have e2:((((i+s) % R.n:Nat):Int)+1).fmod (R.n:Int)=(((i+(s+1)) % R.n:Nat):Int):=by have:=Bm (n:=R.n) (i:=(i+s) % R.n) (s:=1);rw[Nat.mod_add_mod,Nat.add_assoc]at this;exact this
  rw[e1,VQ];rw[e2];rfl
theorem wY:∀ls k4,ls.length=3->iC ls k4->oz (ls++List.replicate 5 .un) (aY ls k4):=by
 rintro ls k4 - ⟨R,k,w,hk,rfl,hR,h⟩;have ha:=hR.ask _ (UO hk);unfold oz;walk_at "w";refine⟨kg R.asks[k],a7 hk,?_⟩;walk_at "w"
 cases w with
 | true =>
  simp only[Bool.true_eq_false,Wv];refine⟨xp,λc=>?_⟩;refine yS hR ha.one ha.other c ?_;walk_at "w";exact⟨_,aj (aj (aj aP)),h c⟩
 | false =>
  simp only[Ww];refine⟨xp,λc=>?_⟩;refine yS hR ha.other ha.one c ?_;walk_at "w";exact⟨_,aj (aj (aj aP)),h c⟩
def df:FS:=λls k4=>∃p q:Rat,ls=[.d (Rh p),.d (Rh q)]/\RB 400000 p/\RB 400000 q/\k4 (.d (.bl (decide (p<q)))) ls
def lJ:W Fl:=(bu (ay uw (ay bK (ay aM (ak 0) (wC (.int 0))) (ay aM (ak 1) (wC (.int 1)))) (ay bK (ay aM (ak 1) (wC (.int 0))) (ay aM (ak 0) (wC (.int 1))))))
theorem uS:∀ls k4,ls.length=2->df ls k4->lJ (ls++List.replicate 0 .un) (aY ls k4):=by rintro ls k4 - ⟨p,q,rfl,hp,hq,h⟩;unfold lJ;walk_at "w";refine⟨hp.bn xp,hq.bd xp,hq.bn xp,hp.bd xp,_,aj (aj aP),?_⟩;rw[MJ];exact h
def gG:FS:=λls k4=>∃(d:D),ls=[.d d]/\(∀i j,d=.tup [.int i,.int j]->j.natAbs<2^9000)/\k4 (.d (.bl (tF d))) ls
def bW:W Fl:=(QZ (QW (nD (aN (QY (gN "int") (ak 1)))) (aN (QY (gN "bool") (ak 1)))) (bu (wC (.bl false))) bA)
def ic:W Fl:=(aW (QZ (QW (nD (aN (QY (gN "tuple") (ak 0)))) (aN (ay uE (aZ cZ (aq (ak 0) aH)) (wC (.int 2))))) (bu (wC (.bl false))) bA)
  (aW (qM (uv (ak 0)) (bj 1) bW)
  (aW (QZ (aN (ay uw (ay aM (ak 0) (wC (.int 1))) (wC (.int 1)))) (bu (wC (.bl false))) bA)
  (bu (ay pN (ak 0) (aI cU (aq (ay aM (ak 0) (wC (.int 0))) (aq (ay aM (ak 0) (wC (.int 1))) aH))))))))
theorem KP{xs:List D}(h:xs.length≠2):tF (.tup xs)=false:=p9 λi j e=>by cases e;exact h rfl
theorem EY{x:D}(h:∀i,x≠.int i){Q:Fl->Ev->Prop}{x0:L}(hq:∀Z,Z=[x0,.d x]->Q (.rt (.d (.bl false))) Z):bW [x0,.d x] Q:=by
 unfold bW
 cases x with
 |int i=>exact absurd rfl (h i)
 | _ =>
  walk_at "w";exact hq _ rfl
theorem II{i:Int}{Q:Fl->Ev->Prop}{x0:L}(hq:Q .nx [x0,.d (.int i)]):bW [x0,.d (.int i)] Q:=by unfold bW;walk_at "w";simpa using hq
theorem Ni{i j:Int}(h:0<j):Q6 (.tup [.int i,.int j]) (Rh (Rat.divInt i j))=tF (.tup [.int i,.int j]):=by
 cases e:tF (.tup [.int i,.int j])with
 | true =>
  obtain⟨q,hq⟩:=Kr e;have hq':D.tup [.int i,.int j]=.tup [.int q.num,.int (q.den:Int)]:=hq;injection hq' with hq';have e1:=(List.cons.inj hq').1;have e2:=(List.cons.inj (List.cons.inj hq').2).1;injection e1 with e1;injection e2 with e2;rw[hq,e1,e2,Vm,A6];simp
 | false =>
  cases z:Q6 (.tup [.int i,.int j]) (Rh (Rat.divInt i j))with
  |false=>rfl
  | true =>
   have z':Q6 (.tup [.int i,.int j]) (.tup [.int (Rat.divInt i j).num,.int ((Rat.divInt i j).den:Int)])=true:=z;rw[zA,g7,g7,rQ,kM,kM,VF,UQ,VM,VM]at z';have w:=Bz (Rat.divInt i j);unfold Rh at w;rw[<- z'.1,<- z'.2,e]at w;cases w
theorem qy:∀ls k4,ls.length=1->gG ls k4->ic (ls++List.replicate 1 .un) (aY ls k4):=by
 rintro ls k4 - ⟨d,rfl,hs,h⟩;unfold ic;have no:∀(Z:Ev),tF d=false->aY [.d d] k4 (.rt (.d (.bl false))) Z:=λZ e=>by rw[e]at h;exact⟨_,aj aP,h⟩
 cases d with
 | tup xs =>
  walk_at "w";by_cases e2:xs.length=2
  .
   obtain⟨a,b,rfl⟩:∃a b,xs=[a,b]:=by
    match xs,e2 with
    |[a,b],_=>exact⟨a,b,rfl⟩
   rw[if_neg (by simp)];by_cases ha:∃i,a=.int i
   .
    obtain⟨i,rfl⟩:=ha;unfold cu;refine II ?_;by_cases hb:∃j,b=.int j
    .
     obtain⟨j,rfl⟩:=hb;unfold cu;refine II ?_;unfold cu;walk_at "w";by_cases hj:j<1
     . rw[if_pos hj];exact no _ (by show(decide (1<=j) && _)=false;rw[UM xL];rfl)
     . rw[if_neg hj];refine⟨i,j,rfl,xL,hs i j rfl,?_⟩;refine⟨jC (n:=1) (by simp[Ri,qN]) xp,rR _,_,aj aP,?_⟩;rw[Ni xL];exact h
    . have hn:∀j,b≠.int j:=λj e=>hb ⟨j,e⟩;unfold cu;refine EY hn λZ e=>?_;exact no _ (p9 λi' j' e=>by cases e;exact hn _ rfl)
   . have hn:∀j,a≠.int j:=λj e=>ha ⟨j,e⟩;unfold cu;refine EY hn λZ e=>?_;exact no _ (p9 λi' j' e=>by cases e;exact hn _ rfl)
  . rw[if_pos (by omega)];exact no _ (KP e2)
 | _ =>
  walk_at "w";exact no _ rfl
def gi:FS:=λls k4=>∃(R:aQ)(ps:List Rat)(k:Nat)(w:Bool),ls=[.d (aJ R),.d (.lst (ps.map Rh)),.d (.int (k:Int)),.d (.str (dD w))]/\dG R ps/\k<ps.length/\k4 (.d (Rh (RX R ps k (!w)))) ls
def oA:W Fl:=(aW (QZ (aN (ay pN (ak 3) (wC (.str "on")))) (bu (ay aM (ak 1) (ak 2))) bA)
  (bu (aI de (aq (ay aM (ay aM (ay aM (ak 0) (wC (.int 1))) (ak 2)) (wC (.int 3))) (aq (ay aM (ak 1) (ak 2)) aH)))))
theorem wZ:∀ls k4,ls.length=4->gi ls k4->oA (ls++List.replicate 0 .un) (aY ls k4):=by
 rintro ls k4 - ⟨R,ps,k,w,rfl,hS,hk,h⟩;have hk':k<R.asks.length:=by rw[<- hS.len];exact hk
 have r1:=hS.sz_rb hk;have r2:=hS.rb hk;rw[iL hk']at r1;rw[bM hk]at r2;unfold RX at h;rw[iL hk',bM hk]at h;unfold oA;walk_at "w"
 cases w with
 | true =>
  walk_at "w";exact⟨_,a7 hk,_,aj (aj (aj (aj aP))),h⟩
 | false =>
  walk_at "w";refine⟨_,a7 hk',?_⟩;walk_at "w";refine⟨_,a7 hk,?_⟩;walk_at "w";exact⟨_,_,rfl,r1.mono xp,r2.mono xp,_,aj (aj (aj (aj aP))),h⟩
def gH:FS:=λls k4=>∃(R:aQ)(ps:List Rat)(d:D),ls=[.d (aJ R),.d (.lst (ps.map Rh)),.d d]/\dG R ps/\(∀s,rZ d=some s->RB 4400 s.am)/\(∀a b c e i j,d=.tup [a,b,c,e,.tup [.int i,.int j]]->j.natAbs<2^9000)/\k4 (.d (.bl (R9 R ps d))) ls
def jg:W L:=(ak 0)
def jh:W Fl:=(bu (ay pN (kL 1 [11] (uv (aI iC (aq (ak 0) (aq (ak 3) (aq (ak 4) aH))))) (bj 0) (aN (ay (pX false) (ak 0) (ak 1))) jg) (qL aH)))
def fH:W Fl:=(aW (bz 10 (bB (aI de (aq (ay aM (ay aM (ay aM (ak 0) (wC (.int 1))) (ak 8)) (wC (.int 3))) (aq (bB (aI gi (aq (ak 0) (aq (ak 1) (aq (ak 8) (aq (ak 9) aH)))))) aH)))))
  (QZ (aN (aI df (aq (ak 10) (aq (ak 7) aH)))) (bu (wC (.bl false))) bA))
def ji:W Fl:=(aW (bz 11 (bB (aI iC (aq (ak 0) (aq (ak 5) (aq (ak 6) aH))))))
  jh)
def jj:W Fl:=(aW (qM (uv (qL (aq (ju (aq (ak 3) (aq (ak 4) aH))) (aq (ju (aq (ak 5) (aq (ak 6) aH))) aH)))) (eY [8,9]) fH)
  ji)
def fJ:W Fl:=(aW (QZ (QW (nD (aN (QY (gN "int") (ak 8)))) (QW (aN (QY (gN "bool") (ak 8))) (nD (aN (vb Jj uw (wC (.int 0)) (ak 8) (aZ cZ (aq (ay aM (ak 0) (wC (.int 1))) aH))))))) (bu (wC (.bl false))) bA)
  (QZ (QW (nD (aN (QY (gN "str") (ak 9)))) (aN (ay (pX true) (ak 9) (ju (aq (wC (.str "on")) (aq (wC (.str "back")) aH)))))) (bu (wC (.bl false))) bA))
def jk:W Fl:=(aW (QZ (QW (aN (ay pN (ak 3) (ak 5))) (QW (nD (aN (aI gG (aq (ak 7) aH)))) (aN (ay Jj (ay aM (ak 7) (wC (.int 0))) (wC (.int 0)))))) (bu (wC (.bl false))) bA)
  jj)
def jm:W Fl:=(aW (qM (uv (qL (aq (ju (aq (ak 3) (aq (ak 4) aH))) (aq (ju (aq (ak 5) (aq (ak 6) aH))) aH)))) (eY [8,9]) fJ)
  jk)
def jn:W Fl:=(aW (xJ [3,4,5,6,7] (ak 2))
  jm)
def ie:W Fl:=(aW (QZ (QW (nD (aN (QY (gN "tuple") (ak 2)))) (aN (ay uE (aZ cZ (aq (ak 2) aH)) (wC (.int 5))))) (bu (wC (.bl false))) bA)
  jn)
theorem BL{q:Rat}:0<q↔0<q.num:=by rw[Rat.lt_iff];simp
theorem se{n:Nat}{a:RJ}(h:gC n a)(w:Bool)(t:Nat):t∈yR n a w↔t∈zW n a w:=by
 cases w with
 |true=>exact Iff.rfl
 | false =>
  show t∈RL n a.other a.one↔t∈tE n a.one a.other;rw[Ec h.other,v9 h.one h.other h.ne];refine and_congr_right λht=>?_;have:=Ef h ht;unfold yk Ee at this;simp only at this;rw[<- VM (p:=RM n a.other t<RM n a.other a.one),this];simp
theorem CD{n:Nat}{a b:RJ}(ha:gC n a)(hb:gC n b)(aw bw:Bool):ky n a aw b bw=decide ((((yR n a aw).filter λt=>decide (t∈yR n b bw)).map λ(t:Nat)=>(t:Int))=[]):=by
 unfold ky;rw[VT,Bool.not_eq_true',List.any_eq_false,VM,List.map_eq_nil_iff,List.filter_eq_nil_iff];constructor
 . intro h t ht;rw[VM,se hb];have:=h t ((se ha aw t).mp ht);simpa using this
 . intro h t ht;have:=h t ((se ha aw t).mpr ht);rw[VM,se hb]at this;simpa using this
theorem Fb(p:Nat->Bool):∀l:List Nat,(l.filterMap λt=>if p t=true then some (D.int (t:Nat))else none)=((l.filter p).map λ(t:Nat)=>(t:Int)).map D.int
 |[]=>rfl
 | a::l=>by rw[Vz,VW,Fb p l];cases p a<;>simp
theorem Uw{p q r s t:Bool}(h:(p && r)=false):(p && (q && (r && (s && t))))=false:=by revert h;cases p<;>cases q<;>cases r<;>simp
theorem Ux{p q r s t:Bool}(h:(q && s)=false):(p && (q && (r && (s && t))))=false:=by revert h;cases p<;>cases q<;>cases r<;>cases s<;>simp
theorem BM{R:aQ}{x1 x2 x3 x4 x5 x6 x7 x10 x11:L}{u w:D}{Q:Fl->Ev->Prop}
  (h:(kC u (R.asks.length:Int) && rY w)=true->Q .nx [.d (aJ R),x1,x2,x3,x4,x5,x6,x7,.d u,.d w,x10,x11])
  (h':(kC u (R.asks.length:Int) && rY w)=false->Q (.rt (.d (.bl false))) [.d (aJ R),x1,x2,x3,x4,x5,x6,x7,.d u,.d w,x10,x11]) :
  fJ [.d (aJ R),x1,x2,x3,x4,x5,x6,x7,.d u,.d w,x10,x11] Q:=by
 unfold fJ;have no:kC u (R.asks.length:Int)=false->(kC u (R.asks.length:Int) && rY w)=false:=λe=>by rw[e];rfl
 cases u with
 | int i =>
  walk_at "w";have e0:kC (.int i) (R.asks.length:Int)=decide (0<=i/\i<(R.asks.length:Int)):=rfl;by_cases c:0<=i/\i<(R.asks.length:Int)
  .
   rw[UX c]at e0;rw[e0,VR]at h h';rw[if_pos c.1,if_neg (by omega)]
   cases w with
   | str z =>
    walk_at "w";rw[En];refine⟨xp,rfl,rfl,?_⟩
    cases e:rY (.str z)with
    | true =>
     walk_at "w";exact h e
    | false =>
     walk_at "w";exact h' e
   | _ =>
    walk_at "w";exact h' rfl
  .
   rw[UM c]at e0;have h':=h' (no e0);by_cases c0:0<=i
   . rw[if_pos c0,if_pos (by omega)];exact h'
   . rw[if_neg c0];exact h'
 | _ =>
  walk_at "w";exact h' (no rfl)
theorem BN{R:aQ}{ps:List Rat}{x2 x3 x4 x5 x6 x10 x11:L}{am:Rat}{k:Nat}{w:Bool}{Q:Fl->Ev->Prop}(hS:dG R ps)(hk:k<ps.length)(ha:RB 4400 am)
  (h1:RX R ps k w<am->∀Z,u7 Z [.d (aJ R),.d (.lst (ps.map Rh)),x2] [.d (aJ R),.d (.lst (ps.map Rh)),x2]->Q (.rt (.d (.bl false))) Z) (h2:¬RX R ps k w<am->∀x10,Q .nx [.d (aJ R),.d (.lst (ps.map Rh)),x2,x3,x4,x5,x6,.d (Rh am),.d (.int (k:Int)),.d (.str (dD w)),x10,x11]) (hx:∃d,x2=.d d) :
  fH [.d (aJ R),.d (.lst (ps.map Rh)),x2,x3,x4,x5,x6,.d (Rh am),.d (.int (k:Int)),.d (.str (dD w)),x10,x11] Q:=by
 have hk':k<R.asks.length:=by rw[<- hS.len];exact hk
 have e:R.asks[k].size-RX R ps k (!w)=RX R ps k w:=by rw[<- iL hk'];exact Kv w
 obtain⟨d,rfl⟩:=hx;unfold fH;walk_at "w";refine⟨_,a7 hk',?_⟩;walk_at "w";refine⟨R,ps,k,w,rfl,hS,hk,?_⟩;walk_at "w";have r1:=hS.sz_rb hk;rw[iL hk']at r1;have r2:RB 4400 (RX R ps k (!w)):=(tI hS hk _).mono xp;refine⟨_,_,rfl,r1.mono xp,r2,?_⟩;rw[e];walk_at "w";refine⟨_,am,rfl,((tI hS hk w).mono xp),ha.mono xp,?_⟩;walk_at "w";by_cases q:RX R ps k w<am
 . rw[if_pos q];exact h1 q _ (aj (aj (aj aP)))
 . rw[if_neg q];exact h2 q _
theorem qz:∀ls k4,ls.length=3->gH ls k4->ie (ls++List.replicate 9 .un) (aY ls k4):=by
 rintro ls k4 - ⟨R,ps,d,rfl,hS,ha0,hj,h⟩;unfold ie;have no:R9 R ps d=false->∀Z,u7 Z [.d (aJ R),.d (.lst (ps.map Rh)),.d d] [.d (aJ R),.d (.lst (ps.map Rh)),.d d]->aY [.d (aJ R),.d (.lst (ps.map Rh)),.d d] k4 (.rt (.d (.bl false))) Z:=λe Z b=>by rw[e]at h;exact⟨_,b,h⟩
 have nof:rq R.asks.length d=false->R9 R ps d=false:=λef=>by
  unfold rq at ef;unfold R9;rw[hS.len];split
  . rename_i s e;rw[e]at ef;have ef:(decide (s.k<R.asks.length) && decide (s.l<R.asks.length))=false:=ef;rw[<- Bool.and_assoc,ef];rfl
  . rfl
 by_cases ht:∃xs,d=.tup xs
 rotate_left
 .
  have e:=no (nof (BA λxs e=>ht ⟨xs,e⟩))
  cases d with
  |tup xs=>exact absurd ⟨_,rfl⟩ ht
  | _ =>
   walk_at "w";exact e _ (aj (aj (aj aP)))
 obtain⟨xs,rfl⟩:=ht;by_cases h5:xs.length=5
 rotate_left
 . have e:=no (nof (yr h5));walk_at "w";rw[if_pos (by omega)];exact e _ (aj (aj (aj aP)))
 obtain⟨a,b,c,d,e,rfl⟩:=OX h5;walk_at "w";unfold jn;walk_at "w";unfold jm;walk_at "w";rw[if_neg (by simp)];refine⟨xp,xp,xp,λ_=>?_⟩
 have nf1:(kC a (R.asks.length:Int) && rY b)=false->R9 R ps (.tup [a,b,c,d,e])=false:=λz=>nof (by
  rw[wj]
  exact Uw z)
 have nf2:(kC c (R.asks.length:Int) && rY d)=false->R9 R ps (.tup [a,b,c,d,e])=false:=λz=>nof (by
  rw[wj]
  exact Ux z)
 unfold cu;refine BM (λf1=>?_) λf=>no (nf1 f) _ (aj (aj (aj aP)));unfold cu;refine BM (λf2=>?_) λf=>no (nf2 f) _ (aj (aj (aj aP)));unfold cu;rw[UQ]at f1 f2
 obtain⟨k,ek,hk'⟩:∃k,nK a=some k/\k<R.asks.length:=by
  have f:=f1.1;rw[r9]at f
  cases z:nK a with
  |none=>rw[z]at f;cases f
  |some k=>rw[z]at f;exact⟨k,rfl,Wj f⟩
 obtain⟨l,el,hl'⟩:∃k,nK c=some k/\k<R.asks.length:=by
  have f:=f2.1;rw[r9]at f
  cases z:nK c with
  |none=>rw[z]at f;cases f
  |some k=>rw[z]at f;exact⟨k,rfl,Wj f⟩
 obtain⟨kw,ekw⟩:∃w,kQ b=some w:=V1.mp (by rw[<- qc];exact f1.2);obtain⟨lw,elw⟩:∃w,kQ d=some w:=V1.mp (by rw[<- qc];exact f2.2);have q1:=r6 ek;have q2:=r6 el;have q3:=oY ekw;have q4:=oY elw;subst q1 q2 q3 q4;have hk:k<ps.length:=by rw[hS.len];exact hk'
 have hl:l<ps.length:=by rw[hS.len];exact hl'
 unfold jk;walk_at "w";by_cases e1:k=l
 .
  rw[if_pos (by omega)];refine no ?_ _ (aj (aj (aj aP)));unfold R9;split
  .
   rename_i s es;have:=z7 es;simp only[RW]at this;injection this with this;injection this with t1 t2;injection t2 with t2 t3;injection t3 with t3 t4;injection t1 with t1;injection t3 with t3;have:s.k=s.l:=by omega
   unfold Rc;simp[this]
  . rfl
 rw[if_neg (by omega)];refine⟨e,rfl,λi j z=>?_,?_⟩
 . subst z;exact hj _ _ _ _ i j rfl
 cases er:tF e with
 | false =>
  walk_at "w";refine no (nof ?_) _ (aj (aj (aj aP)));rw[wj,er];simp
 |true =>
 obtain⟨am,eam⟩:∃q,wg e=some q:=V1.mp (by rw[<- Er];exact er);have q5:=By eam;subst q5;obtain⟨s,hs⟩:∃s:eB,s=⟨k,kw,l,lw,am⟩:=⟨_,rfl⟩;have es:rZ (.tup [.int (k:Int),.str (dD kw),.int (l:Int),.str (dD lw),Rh am])=some s:=by rw[hs];exact kR ⟨k,kw,l,lw,am⟩
 have ha:=ha0 s es;have eT:R9 R ps (.tup [.int (k:Int),.str (dD kw),.int (l:Int),.str (dD lw),Rh am])=Rc R ps s:=by rw[hs];exact BB (s:=⟨k,kw,l,lw,am⟩) hk hl
 rw[eT]at h;obtain rfl:k=s.k:=by rw[hs]
 obtain rfl:kw=s.kw:=by rw[hs]
 obtain rfl:l=s.l:=by rw[hs]
 obtain rfl:lw=s.lw:=by rw[hs]
 obtain rfl:am=s.am:=by rw[hs]
 clear hs;walk_at "w"
 have ff:Rc R ps s=false->∀Z,u7 Z [.d (aJ R),.d (.lst (ps.map Rh)),.d (.tup [.int (s.k:Int),.str (dD s.kw),.int (s.l:Int),.str (dD s.lw),Rh s.am])] [.d (aJ R),.d (.lst (ps.map Rh)),.d (.tup [.int (s.k:Int),.str (dD s.kw),.int (s.l:Int),.str (dD s.lw),Rh s.am])] ->
   aY [.d (aJ R),.d (.lst (ps.map Rh)),.d (.tup [.int (s.k:Int),.str (dD s.kw),.int (s.l:Int),.str (dD s.lw),Rh s.am])] k4 (.rt (.d (.bl false))) Z:=λe Z b=>by
  rw[e]at h;exact⟨_,b,h⟩
 have hb:∀Z,u7 Z [.d (aJ R),.d (.lst (ps.map Rh)),.d (.tup [.int (s.k:Int),.str (dD s.kw),.int (s.l:Int),.str (dD s.lw),Rh s.am])] [.d (aJ R),.d (.lst (ps.map Rh)),.d (.tup [.int (s.k:Int),.str (dD s.kw),.int (s.l:Int),.str (dD s.lw),Rh s.am])]:=λZ=>aj (aj (aj aP));by_cases e2:0<s.am
 .
  rw[if_neg (by have:=BL.mp e2;omega)];unfold jj;walk_at "w";refine⟨xp,xp,xp,λ_=>?_⟩;unfold cu;refine BN hS hk ha (λq Z b=>?_) (λq1 x10=>?_) ⟨_,rfl⟩
  . exact ff (by unfold Rc;rw[UX (p:=RY R ps s.k s.kw s.l s.lw<s.am) (Kw.mpr (.inl q))];simp) _ b
  unfold cu;refine BN hS hl ha (λq Z b=>?_) (λq2 x10=>?_) ⟨_,rfl⟩
  . exact ff (by unfold Rc;rw[UX (p:=RY R ps s.k s.kw s.l s.lw<s.am) (Kw.mpr (.inr q))];simp) _ b
  unfold cu;unfold ji;walk_at "w";refine⟨R,s.l,s.lw,hl',rfl,hS.ok,λc=>?_⟩;walk_at "w";unfold jh;walk_at "w";refine⟨R,s.k,s.kw,hk',rfl,hS.ok,λc2=>?_⟩;walk_at "w";have aok:=hS.ok.ask _ (UO hk');have bok:=hS.ok.ask _ (UO hl')
  have b0:(yR R.n R.asks[s.k] s.kw).length<=99:=by
   have hhi:=hS.ok.hi;unfold yR;cases s.kw
   . have:=yj (n:=R.n) (i:=R.asks[s.k].other) (j:=R.asks[s.k].one) (by have:=hS.ok.lo;omega);simp only[V2,Wv,vk];omega
   . have:=yj (n:=R.n) (i:=R.asks[s.k].one) (j:=R.asks[s.k].other) (by have:=hS.ok.lo;omega);simp only[Ww,vk];omega
  refine⟨Ei b0,i8 (h:=λt=>if decide (t∈yR R.n R.asks[s.l] s.lw)=true then some (D.int (t:Nat))else none) _ [] _ (λt hm Q hq=>?_) λl' a1=>?_⟩
  .
   unfold jg;walk_at "w";refine⟨rfl,by simp[pW],?_⟩;rw[oX];by_cases q:t∈yR R.n R.asks[s.l] s.lw
   . simp only[UX q,Ww]at hq ⊢;exact hq
   . simp only[UM q,V2,Wv]at hq ⊢;exact hq
  . rw[VS,Fb];refine⟨xp,λ_=>⟨vg _,vg [],?_⟩⟩;rw[show(D.lst [])=D.lst (([]:List Int).map D.int)from rfl,Gz,<- CD aok bok];refine⟨_,hb _,?_⟩;unfold Rc at h;rw[UM e1,UX e2,UM (p:=RY R ps s.k s.kw s.l s.lw<s.am) (λz=>(Kw.mp z).elim q1 q2),c7 hk',c7 hl']at h;simpa using h
 . rw[if_pos (by have:¬0<s.am.num:=λz=>e2 (BL.mpr z);omega)];exact ff (by unfold Rc;simp[e2]) _ (hb _)
def iU:FS:=λls k4=>∃(R:aQ)(ps:List Rat),ls=[.d (aJ R),.d (.lst (ps.map Rh)),.d (.lst ((kB R 20 ps).map RW))]/\dG R ps/\∀a,k4 (.own a ((iy R 20 ps).map Rh)) ls
def lK:W Fl:=(aW (QZ (nD (aN (aI gH (aq (ak 0) (aq (ak 3) (aq (ak 4) aH)))))) (bu (wC .non)) bA)
  (bz 3 (aI lI (aq (ak 3) (aq (ak 4) aH)))))
def j7:W Fl:=(aW (QZ (nD (aN (QY (gN "list") (ak 2)))) (bu (wC .non)) bA)
  (aW (bz 3 (aZ sM (aq (ak 1) aH)))
  (aW (qM (uv (ak 2)) (bj 4) lK)
  (bu (nC 3)))))
theorem Nj{R:aQ}{ps:List Rat}(h:dG R ps):∀p∈ps,RB 4000 p:=λp hp=>by obtain⟨i,hi,rfl⟩:=Vu hp;rw[<- bM hi];exact(h.rb hi).mono xp
theorem uf:∀ls k4,ls.length=3->iU ls k4->j7 (ls++List.replicate 2 .un) (aY ls k4):=by
 rintro ls k4 - ⟨R,ps,rfl,hS,h⟩;unfold j7;walk_at "w";refine λa0=>cF _ (λj Z=>∃(m:Nat)(qs:List Rat)(a:Addr)(x:L),Z=[.d (aJ R),.d (.lst (ps.map Rh)),.d (.lst ((kB R 20 ps).map RW)),.own a (qs.map Rh),x]/\dG R qs/\kB R m qs=(kB R 20 ps).drop j/\iy R m qs=iy R 20 ps) _ ⟨20,ps,_,_,rfl,hS,rfl,rfl⟩ ?_ ?_
 .
  rintro j x Z hj ⟨m,qs,a,x4,rfl,hQ,e1,e2⟩ Q h1 h2 h3 h4;rw[UU]at hj
  have hj':j<(kB R 20 ps).length:=by
   rcases Nat.lt_or_ge j (kB R 20 ps).length with q|q
   . exact q
   . rw[VZ q]at hj;exact absurd hj x_
  rw[fI hj']at hj;cases hj;rw[Vi hj']at e1;obtain⟨m',rfl,en,es⟩:=G8 e1;obtain⟨d1,d2,d3,_,d5,_⟩:=jG hQ en;rw[G9 en]at e2;unfold lK;walk_at "w";generalize (kB R 20 ps)[j]=s at *;refine⟨R,qs,RW s,rfl,hQ,λu eu=>?_,λa b c e i j ed=>?_,?_⟩
  . rw[kR]at eu;cases eu;exact d5.mono xp
  . cases ed;exact so d5.2 (UW xp xp)
  walk_at "w";rw[BB d1.k d1.l,d2];walk_at "w";refine⟨qs,s,rfl,by rw[hQ.len];exact hQ.ok.few,d1.k,d1.l,d1.kl,Nj hQ,d5,λc=>?_⟩;exact h1 _ ⟨m',R0 qs s,c,_,rfl,d3,es.symm,e2⟩
 . rintro Z ⟨m,qs,a,x,rfl,hQ,e1,e2⟩;rw[UN,Wp]at e1;rw[Kx e1]at e2;subst e2;walk_at "w";exact⟨_,aj (aj (aj aP)),h a⟩
def fR:FS:=λls k4=>∃(R:aQ)(ps:List Rat)(c:Nat),ls=[.d (aJ R),.d (.lst (ps.map Rh))]/\R.Ok/\ps.length=R.asks.length/\(∀p∈ps,RB c p)/\c<=400000/\∀a,k4 (.own a (((List.range ps.length).filter λk=>decide (0<ps.getD k 0) && decide (ps.getD k 0<R.sz k)).map λ(k:Nat)=>D.int (k:Int))) ls
def lL:W Fl:=(QZ (FQ (aN (ay Jk (ay aM (ak 4) (wC (.int 0))) (wC (.int 0)))) (aN (aI df (aq (ak 4) (aq (ay aM (ay aM (ay aM (ak 0) (wC (.int 1))) (ak 3)) (wC (.int 3))) aH))))) (sF (F0 2 (ak 3))) bA)
def j8:W Fl:=(aW (bz 2 (qL aH))
  (aW (qM (xO (ak 1)) (eY [3,4]) lL)
  (bu (nC 2))))
theorem ug:∀ls k4,ls.length=2->fR ls k4->j8 (ls++List.replicate 3 .un) (aY ls k4):=by
 rintro ls k4 - ⟨R,ps,c,rfl,hR,hl,hb,hc,h⟩;unfold j8;walk_at "w";refine⟨xp,λa=>?_⟩;rw[Bp];have few:=hR.few;refine ma (enc:=λ(t:Nat)=>D.tup [.int (t:Int),Rh (ps.getD t 0)]) (List.range ps.length) (λpre Z=>∃x3 x4,Z=[.d (aJ R),.d (.lst (ps.map Rh)),.own a ((pre.filter λk=>decide (0<ps.getD k 0) && decide (ps.getD k 0<R.sz k)).map λ(k:Nat)=>D.int (k:Int)),x3,x4]) _ ⟨_,_,rfl⟩ ?_ ?_
 .
  rintro pre k suf Z hsp ⟨x3,x4,rfl⟩ Q h1 h2 h3 h4
  have hk:k<ps.length:=by
   have:k∈List.range ps.length:=by rw[hsp];simp
   simpa using this
  have hpl:pre.length<20:=by have:=WG List.length hsp;simp at this;omega
  have hb':=hb _ (UO hk);rw[<- p8 hk]at hb';unfold lL;walk_at "w";rw[List.filter_append,VW,List.filter_nil]at h1;have e0:(0<(ps.getD k 0).num)=(0<ps.getD k 0):=by exact propext (zZ _)
  by_cases h0:0<ps.getD k 0
  .
   rw[if_pos (by rw[e0];exact h0)];refine⟨_,a7 xL,?_⟩;walk_at "w";refine⟨_,_,rfl,hb'.mono hc,(hR.rb (UO _)).mono xp,?_⟩;walk_at "w";rw[Cq xL]at h1;by_cases h5:ps.getD k 0<R.asks[k].size
   . rw[if_pos h5];refine⟨U1 (VJ _ _) (so hpl xp),h1 _ ⟨.d (.int k),.d (Rh (ps.getD k 0)),?_⟩⟩;rw[if_pos (by simp only[h0,h5];decide),VQ];rfl
   . rw[if_neg h5];refine h1 _ ⟨.d (.int k),.d (Rh (ps.getD k 0)),?_⟩;rw[if_neg (by simp only[h0,h5];decide),VC]
  . rw[if_neg (by rw[e0];exact h0)];refine h1 _ ⟨.d (.int k),.d (Rh (ps.getD k 0)),?_⟩;rw[if_neg (by simp only[h0];simp),VC]
 . rintro Z ⟨x3,x4,rfl⟩;walk_at "w";exact⟨_,aj (aj aP),h a⟩
noncomputable def oB(a b:RJ):Bool:=decide (min a.one a.other<min b.one b.other/\min b.one b.other<max a.one a.other/\max a.one a.other<max b.one b.other) ||decide (min b.one b.other<min a.one a.other/\min a.one a.other<max b.one b.other/\max b.one b.other<max a.one a.other)
def j9:FS:=λls k4=>∃(R:aQ)(k l:Nat)(hk:k<R.asks.length)(hl:l<R.asks.length),ls=[.d (aJ R),.d (.int k),.d (.int l)]/\R.Ok/\k≠l/\k4 (.d (.bl (oB R.asks[k] R.asks[l]))) ls
def fS:W L:=(ak 0)
def m4:W Fl:=(aW (bz 5 (kL 1 [4,0] (uv (ju (aq (ak 1) (aq (ak 2) aH)))) (bj 0) (aN (ay (pX false) (ak 1) (HY (ay aM (ay aM (ak 2) (wC (.int 1))) (ak 0)) (some (wC (.int 1))) (some (wC (.int 3)))))) fS))
  (aW (QZ (aN (ay pN (aZ cZ (aq (ak 5) aH)) (wC (.int 2)))) (bu (wC (.bl false))) bA)
  (bz 3 (bB (ay dO (ak 3) (ak 5))))))
def lM:W Fl:=(aW (bz 3 (bB (qL aH)))
  (aW (qM (uC (aZ cZ (aq (ay aM (ak 0) (wC (.int 0))) aH))) (bj 4) m4)
  (bu (nF (ay pN (ay aM (ak 3) (wC (.int 0))) (ay aM (ak 3) (wC (.int 2)))) (ay pN (ay aM (ak 3) (wC (.int 1))) (ay aM (ak 3) (wC (.int 3))))))))
noncomputable def oC(a:RJ)(p:Nat):Bool:=decide (p=a.one) ||decide (p=a.other)
noncomputable def dZ(a b:RJ)(k l:Nat)(p:Nat):List Nat:=(if oC a p then[k]else[])++(if oC b p then[l]else[])
noncomputable def uh(a b:RJ)(k l:Nat)(j:Nat):List Nat:=(List.range j).flatMap (dZ a b k l)
theorem vp(a b:RJ)(k l j:Nat):uh a b k l (j+1)=uh a b k l j++dZ a b k l j:=by unfold uh;rw[List.range_succ,List.flatMap_append];simp
theorem CF{f:Nat->List Nat}{a b c d x y z w:Nat}(hab:a<b)(hbc:b<c)(hcd:c<d)(fa:f a=[x])(fb:f b=[y])(fc:f c=[z])(fd:f d=[w])(h0:∀p,p≠a->p≠b->p≠c->p≠d->f p=[]) :
  ∀j,(List.range j).flatMap f=(if a<j then[x]else[])++(if b<j then[y]else[])++(if c<j then[z]else[])++(if d<j then[w]else[]):=by
 intro j
 induction j with
 |zero=>simp
 | succ j ih =>
  rw[List.range_succ,List.flatMap_append,ih];simp only[List.flatMap_cons,List.flatMap_nil,VC];by_cases e1:j=a
  . subst e1;rw[fa,if_neg (by omega),if_neg (by omega),if_neg (by omega),if_neg (by omega),if_pos (by omega),if_neg (by omega),if_neg (by omega),if_neg (by omega)];rfl
  .
   by_cases e2:j=b
   . subst e2;rw[fb,if_pos (by omega),if_neg (by omega),if_neg (by omega),if_neg (by omega),if_pos (by omega),if_pos (by omega),if_neg (by omega),if_neg (by omega)];rfl
   .
    by_cases e3:j=c
    . subst e3;rw[fc,if_pos (by omega),if_pos (by omega),if_neg (by omega),if_neg (by omega),if_pos (by omega),if_pos (by omega),if_pos (by omega),if_neg (by omega)];rfl
    .
     by_cases e4:j=d
     . subst e4;rw[fd,if_pos (by omega),if_pos (by omega),if_pos (by omega),if_neg (by omega),if_pos (by omega),if_pos (by omega),if_pos (by omega),if_pos (by omega)];rfl
     .
      rw[h0 j e1 e2 e3 e4,VC];have q:∀t,j≠t->(t<j↔t<j+1):=λt ht=>by omega
      simp only[q a e1,q b e2,q c e3,q d e4]
theorem mq{f:Nat->List Nat}{a b c d x y z w n:Nat}(hab:a<b)(hbc:b<c)(hcd:c<d)(hd:d<n)(fa:f a=[x])(fb:f b=[y])(fc:f c=[z])(fd:f d=[w])(h0:∀p,p≠a->p≠b->p≠c->p≠d->f p=[]):(List.range n).flatMap f=[x,y,z,w]:=by rw[CF hab hbc hcd fa fb fc fd h0 n,if_pos (by omega),if_pos (by omega),if_pos (by omega),if_pos hd];rfl
theorem IJ{a b:RJ}{k l p:Nat}(h:oC a p=true)(h':oC b p=false):dZ a b k l p=[k]:=by simp[dZ,h,h']
theorem IK{a b:RJ}{k l p:Nat}(h:oC a p=false)(h':oC b p=true):dZ a b k l p=[l]:=by simp[dZ,h,h']
theorem Nk{a b:RJ}{k l p:Nat}(h:oC a p=false)(h':oC b p=false):dZ a b k l p=[]:=by simp[dZ,h,h']
theorem yT(a:RJ)(p:Nat):oC a p=(decide (p=min a.one a.other) ||decide (p=max a.one a.other)):=by
 unfold oC;by_cases h:a.one<=a.other
 . rw[Nat.min_eq_left h,Nat.max_eq_right h]
 . rw[Nat.min_eq_right xL,Nat.max_eq_left xL];exact Bool.or_comm _ _
theorem CG{n:Nat}{a b:RJ}(k l:Nat)(ha:gC n a)(hb:gC n b)(hs:∀p,p<n->¬(oC a p=true/\oC b p=true))(hkl:k≠l):∃x y z w,uh a b k l n=[x,y,z,w]/\(decide (x=z) && decide (y=w))=oB a b:=by
 have h1:=ha.one;have h2:=ha.other;have h3:=ha.ne;have h4:=hb.one;have h5:=hb.other;have h6:=hb.ne;have ea:∀p,oC a p=true↔p=min a.one a.other∨p=max a.one a.other:=λp=>by rw[yT];simp
 have eb:∀p,oC b p=true↔p=min b.one b.other∨p=max b.one b.other:=λp=>by rw[yT];simp
 have na:∀p,oC a p=false↔p≠min a.one a.other/\p≠max a.one a.other:=λp=>by rw[yT];simp
 have nb:∀p,oC b p=false↔p≠min b.one b.other/\p≠max b.one b.other:=λp=>by rw[yT];simp
 have hA:min a.one a.other<max a.one a.other:=by omega
 have hB:min b.one b.other<max b.one b.other:=by omega
 have hAn:max a.one a.other<n:=by omega
 have hBn:max b.one b.other<n:=by omega
 have d1:min a.one a.other≠min b.one b.other:=λe=>hs _ xL ⟨(ea _).mpr (.inl rfl),(eb _).mpr (.inl e)⟩;have d2:min a.one a.other≠max b.one b.other:=λe=>hs _ xL ⟨(ea _).mpr (.inl rfl),(eb _).mpr (.inr e)⟩;have d3:max a.one a.other≠min b.one b.other:=λe=>hs _ xL ⟨(ea _).mpr (.inr rfl),(eb _).mpr (.inl e)⟩;have d4:max a.one a.other≠max b.one b.other:=λe=>hs _ xL ⟨(ea _).mpr (.inr rfl),(eb _).mpr (.inr e)⟩;unfold oB uh;generalize min a.one a.other=A at *;generalize max a.one a.other=C at *;generalize min b.one b.other=B at *;generalize max b.one b.other=E at *;have fA:dZ a b k l A=[k]:=IJ ((ea _).mpr (.inl rfl)) ((nb _).mpr ⟨d1,d2⟩);have fC:dZ a b k l C=[k]:=IJ ((ea _).mpr (.inr rfl)) ((nb _).mpr ⟨d3,d4⟩);have fB:dZ a b k l B=[l]:=IK ((na _).mpr ⟨VB d1,VB d3⟩) ((eb _).mpr (.inl rfl));have fE:dZ a b k l E=[l]:=IK ((na _).mpr ⟨VB d2,VB d4⟩) ((eb _).mpr (.inr rfl));have f0:∀p,p≠A->p≠C->p≠B->p≠E->dZ a b k l p=[]:=λp q1 q2 q3 q4=>Nk ((na _).mpr ⟨q1,q2⟩) ((nb _).mpr ⟨q3,q4⟩);have lk:¬l=k:=λe=>hkl e.symm;by_cases o1:A<B
 .
  by_cases o2:C<B
  . refine⟨k,k,l,l,mq hA o2 hB hBn fA fC fB fE (λp q1 q2 q3 q4=>f0 p q1 q2 q3 q4),?_⟩;rw[UM (p:=A<B/\B<C/\C<E) xL,UM (p:=B<A/\A<E/\E<C) xL,UM (p:=k=l) hkl];rfl
  .
   by_cases o3:C<E
   . refine⟨k,l,k,l,mq o1 xL o3 hBn fA fB fC fE (λp q1 q2 q3 q4=>f0 p q1 q3 q2 q4),?_⟩;rw[UX (p:=A<B/\B<C/\C<E) xL];simp
   . refine⟨k,l,l,k,mq o1 hB xL hAn fA fB fE fC (λp q1 q2 q3 q4=>f0 p q1 q4 q2 q3),?_⟩;rw[UM (p:=A<B/\B<C/\C<E) xL,UM (p:=B<A/\A<E/\E<C) xL,UM (p:=k=l) hkl];rfl
 .
  have o1':B<A:=by omega
  by_cases o2:E<A
  . refine⟨l,l,k,k,mq hB o2 hA hAn fB fE fA fC (λp q1 q2 q3 q4=>f0 p q3 q4 q1 q2),?_⟩;rw[UM (p:=A<B/\B<C/\C<E) xL,UM (p:=B<A/\A<E/\E<C) xL,UM (p:=l=k) lk];rfl
  .
   by_cases o3:E<C
   . refine⟨l,k,l,k,mq o1' xL o3 hAn fB fA fE fC (λp q1 q2 q3 q4=>f0 p q2 q4 q1 q3),?_⟩;rw[UM (p:=A<B/\B<C/\C<E) xL,UX (p:=B<A/\A<E/\E<C) xL];simp
   . refine⟨l,k,k,l,mq o1' hA xL hBn fB fA fC fE (λp q1 q2 q3 q4=>f0 p q2 q3 q1 q4),?_⟩;rw[UM (p:=A<B/\B<C/\C<E) xL,UM (p:=B<A/\A<E/\E<C) xL,UM (p:=l=k) lk];rfl
theorem w4{a b:RJ}{p:Nat}(h:oC a p=true)(h':oC b p=true):oB a b=false:=by rw[yT]at h h';simp only[WK,UP]at h h';unfold oB;generalize min a.one a.other=A at *;generalize max a.one a.other=C at *;generalize min b.one b.other=B at *;generalize max b.one b.other=E at *;rw[Bool.or_eq_false_iff];refine⟨UM ?_,UM ?_⟩<;>omega
theorem Hu(a:RJ):CK [D.str a.nm,.int a.one,.int a.other,Rh a.size] (some 1) (some 3)=[D.int a.one,D.int a.other]:=by rfl
theorem KQ(a:RJ)(p:Nat):QJ (.int (p:Int)) [D.int a.one,D.int a.other]=oC a p:=by
 unfold oC QJ;simp only[Wc,List.any_nil,Bool.or_false,Re]
 congr 1<;>(apply VT.mpr;simp;omega)
theorem uT:∀ls k4,ls.length=3->j9 ls k4->lM (ls++List.replicate 3 .un) (aY ls k4):=by
 rintro ls k4 - ⟨R,k,l,hk,hl,rfl,hR,hkl,h⟩;unfold lM;walk_at "w";have hlo:=hR.lo;have hhi:=hR.hi;refine⟨xp,λa0=>⟨⟨xL,xL⟩,?_⟩⟩;rw[VL];refine DT _ (λj Z=>∃x4 x5,Z=[.d (aJ R),.d (.int k),.d (.int l),.d (.lst ((uh R.asks[k] R.asks[l] k l j).map λ(m:Nat)=>D.int (m:Int))),x4,x5]/\(∀p,p<j->¬(oC R.asks[k] p=true/\oC R.asks[l] p=true))/\(uh R.asks[k] R.asks[l] k l j).length<=2*j) _ ⟨_,_,rfl,λp hp=>absurd hp (Nat.not_lt_zero _),US _⟩ ?_ ?_
 .
  rintro j Z hj ⟨x4,x5,rfl,hs,hml⟩ Q h1 h2 h3 h4;unfold m4;walk_at "w";refine⟨xp,xp,?_⟩
  have key:∀(Q':List D->Ev->Prop),(∀l',Q' ((dZ R.asks[k] R.asks[l] k l j).map λ(m:Nat)=>D.int (m:Int)) [l',.d (.int j),.d (aJ R)])->eI (bj 0) (aN (ay (pX false) (ak 1) (HY (ay aM (ay aM (ak 2) (wC (.int 1))) (ak 0)) (some (wC (.int 1))) (some (wC (.int 3)))))) fS [.int k,.int l] [.un,.d (.int j),.d (aJ R)] [] Q':=by
   intro Q' hQ'
   have:=i8 (α:=Nat) (enc:=λ(m:Nat)=>D.int (m:Int)) (h:=λm=>if oC (R.asks.getD m R.asks[k]) j then some (D.int (m:Int))else none) (caps:=[.d (.int j),.d (aJ R)]) (ti:=aN (ay (pX false) (ak 1) (HY (ay aM (ay aM (ak 2) (wC (.int 1))) (ak 0)) (some (wC (.int 1))) (some (wC (.int 3)))))) (te:=fS) (k:=Q') [k,l] [] .un (λm hm Q2=>?_) ?_
   . exact this
   .
    have hm':m<R.asks.length:=by simp at hm;rcases hm with rfl|rfl<;>assumption
    have eg:R.asks.getD m R.asks[k]=R.asks[m]:=by rw[UK,fI hm'];rfl
    intro hq;rw[eg]at hq;walk_at "w";refine⟨_,a7 hm',?_⟩;simp only[kg];walk_at "w";rw[Hu];refine⟨xp,rfl,?_⟩;rw[KQ];unfold fS;walk_at "w";refine⟨rfl,?_⟩;cases he:oC R.asks[m] j<;>rw[he]at hq<;>simpa using hq
   .
    intro l';have ek:R.asks.getD k R.asks[k]=R.asks[k]:=by rw[UK,fI hk];rfl
    have el:R.asks.getD l R.asks[k]=R.asks[l]:=by rw[UK,fI hl];rfl
    have e:[]++[k,l].filterMap (λm=>if oC (R.asks.getD m R.asks[k]) j then some (D.int (m:Int))else none)=(dZ R.asks[k] R.asks[l] k l j).map λ(m:Nat)=>D.int (m:Int):=by unfold dZ;simp only[Vz,List.filterMap_nil,ek,el,VS];cases oC R.asks[k] j<;>cases oC R.asks[l] j<;>rfl
    rw[e];exact hQ' l'
  refine key _ λl' a1=>?_;walk_at "w";have hmk:(dZ R.asks[k] R.asks[l] k l j).length<=2/\((dZ R.asks[k] R.asks[l] k l j).length=2↔(oC R.asks[k] j=true/\oC R.asks[l] j=true)):=by unfold dZ;cases oC R.asks[k] j<;>cases oC R.asks[l] j<;>simp
  by_cases hsh:(dZ R.asks[k] R.asks[l] k l j).length=2
  . rw[if_pos (by rw[hsh];rfl)];obtain⟨q1,q2⟩:=hmk.2.mp hsh;refine h4 _ _ ?_;rw[w4 q1 q2]at h;exact⟨_,aj (aj (aj aP)),h⟩
  .
   rw[if_neg (by omega)];have es:(sizeLine:Nat)=16777216:=by decide
   refine⟨xL,?_⟩;refine λa2=>h1 _ ⟨_,_,by rw[vp,VQ],λp hp=>?_,by rw[vp,Vk];omega⟩;by_cases e:p=j
   . subst e;exact λhh=>hsh (hmk.2.mpr hh)
   . exact hs p xL
 .
  rintro Z ⟨x4,x5,rfl,hs,hml⟩;obtain⟨x,y,z,w,e,ec⟩:=CG k l (hR.ask _ (UO hk)) (hR.ask _ (UO hl)) hs hkl;rw[e];simp only[Ve,List.map_nil];walk_at "w"
  have ee:(if(x:Int)=(z:Int)then decide ((y:Int)=(w:Int))else false)=oB R.asks[k] R.asks[l]:=by rw[<- ec];by_cases q1:x=z<;>by_cases q2:y=w<;>simp[q1,q2,Int.ofNat_inj]
  by_cases q1:(x:Int)=(z:Int)
  . rw[if_pos q1]at ee ⊢;by_cases q2:(y:Int)=(w:Int)<;>simp only[q2,decide_true,decide_false]at ee⊢<;> (rw[<- ee]at h;exact⟨_,aj (aj (aj aP)),h⟩)
  . rw[if_neg q1]at ee ⊢;rw[<- ee]at h;exact⟨_,aj (aj (aj aP)),h⟩
def dC:FS:=λls k4=>∃(R:aQ)(qs:List Rat)(ws:List Bool),ls=[.d (aJ R),.d (.lst (qs.map Rh)),.d (.lst (ws.map dE)),.d (.lst ((R8 R qs).map λ(k:Nat)=>D.int (k:Int)))]/\dG R qs/\ws.length=R.asks.length /\
 (R6 (R5 R) (R8 R qs)≠none->k4 (.d (.bl false)) ls)/\∀os:List Nat,R6 (R5 R) (R8 R qs)=none->os.Perm (R8 R qs)->os.Pairwise (λi j=>Sd R i<=Sd R j)->k4 (.d (.bl (Sj (bZ R (R8 R qs)) 0 (Sl R qs ws os)))) ls
def d6:W Fl:=(QZ (aN (aI df (aq (bB (aI cU (aq (ay aM (ak 4) (wC (.int 0))) (aq (bB (ay bK (wC (.int 2)) (ay aM (ak 4) (wC (.int 1))))) aH)))) (aq (ju (aq (bB (aZ zu (aq (ay aM (ak 16) (wC (.int 0))) aH))) (aq (ay aM (ak 16) (wC (.int 1))) aH))) aH)))) (bu (wC (.bl false))) bA)
def gj:W Fl:=(aW (bz 16 (bB (aI gh (aq (ak 16) (aq (ak 15) aH)))))
  d6)
def gm:W Fl:=(bu (wC (.bl true)))
def gp:W Fl:=(aW (qM (uv (kN 5 (aZ DS (aq (ak 5) aH)))) (eY [17,15]) gj)
  gm)
def d7:W Fl:=(sF (F0 5 (ju (aq (bB (aZ zv (aq (ak 9) (aq (ak 10) aH)))) (aq (ak 15) aH)))))
def d8:W Fl:=(aW (bz 15 (bB (aI de (aq (ak 14) (aq (ak 13) aH)))))
  d7)
def d9:W Fl:=(aW (bz 14 (ay aM (qL (aq (ju (aq (wC (.int 0)) (aq (wC (.int 1)) aH))) (aq (ak 11) aH))) (aZ xC (aq (ay pN (ay aM (ak 2) (ak 6)) (ak 12)) aH))))
  d8)
def et:W Fl:=(aW (bz 13 (bB (aI gi (aq (ak 0) (aq (ak 1) (aq (ak 6) (aq (ak 12) aH)))))))
  d9)
def bX:W Fl:=(aW (bz 12 (ay aM (qL (aq (wC (.str "back")) (aq (wC (.str "on")) aH))) (aZ xC (aq (ay uw (ak 9) (ak 10)) aH))))
  et)
def eA:W Fl:=(aW (QZ (aN (aI df (aq (ak 4) (aq (ak 11) aH)))) (bz 4 (ak 11)) bA)
  bX)
def cV:W Fl:=(QZ (FQ (aN (ay uw (ak 6) (ak 7))) (nD (aN (aI j9 (aq (ak 0) (aq (ak 6) (aq (ak 7) aH))))))) (bu (wC (.bl false))) bA)
def bY:W Fl:=(aW (xJ [8,9,10,11] (ay aM (ay aM (ak 0) (wC (.int 1))) (ak 6)))
  eA)
def gu:W Fl:=(aW (qM (uv (ak 3)) (bj 7) cV)
  bY)
def gv:W Fl:=(aW (bz 16 (ju (aq (wC (.int 0)) (aq (wC (.int 1)) aH))))
  gp)
def gw:W Fl:=(aW (qM (uv (ak 3)) (bj 6) gu)
  gv)
def gy:W Fl:=(aW (bz 5 (qL aH))
  gw)
def dU:W Fl:=(aW (bz 4 (ju (aq (wC (.int 0)) (aq (wC (.int 1)) aH))))
  gy)
theorem Fc{cr:Nat->Nat->Bool}:∀{ks:List Nat},ks.Pairwise (· < ·)->(∀k l,k∈ks->l∈ks->k<l->cr k l=true)->R6 cr ks=none
 |[],_,_=>rfl
 | a::ks,hp,h=>by
  obtain⟨p1,p2⟩:=Wb.mp hp;unfold R6;have e:ks.find? (λl=>!cr a l)=none:=by rw[List.find?_eq_none];intro l hl;rw[h a l p4 (gV _ hl) (p1 l hl)];decide
  rw[e];exact Fc p2 λk l hk hl hkl=>h k l (gV _ hk) (gV _ hl) hkl
noncomputable def Fd(R:aQ)(qs:List Rat)(ws:List Bool)(k:Nat):Int×D:=((Sd R k:Int),Rh (cy R qs k (ws.getD k true)))
theorem Fe:∀{as bs:List (Int×D)},as.Pairwise (λx y=>x.1<y.1)->bs.Pairwise (λx y=>x.1<y.1)->as.Perm bs->as=bs
 |[],bs,_,_,p=>List.Perm.nil_eq p
 |a::as,[],_,_,p=>absurd p.length_eq x_
 | a::as,b::bs,ha,hb,p=>by
  obtain⟨a1,a2⟩:=Wb.mp ha;obtain⟨b1,b2⟩:=Wb.mp hb
  have e:a=b:=by
   rcases UV.mp (p.mem_iff.mp (p4 (a:=a) (l:=as)))with q|q
   . exact q
   .
    rcases UV.mp (p.mem_iff.mpr (p4 (a:=b) (l:=bs)))with r|r
    . exact r.symm
    . have:=a1 b r;have:=b1 a q;omega
  subst e;rw[Fe a2 b2 p.cons_inv]
theorem Nl{R:aQ}{k l:Nat}(hk:k<R.asks.length)(hl:l<R.asks.length):oB R.asks[k] R.asks[l]=R5 R k l:=by unfold R5;rw[c7 hk,c7 hl];rfl
theorem OG{R:aQ}{qs:List Rat}{ws:List Bool}{g:Rat}{r:L}{k:Nat}{x7 x8 x9 x10 x11 x12 x13 x14 x15 x16 x17:L}{Q:Fl->Ev->Prop}(hS:dG R qs)(hk:k∈R8 R qs)(f7:oT x7=true)
  (h1:(∀l∈R8 R qs,k<l->R5 R k l=true)->∀x7,oT x7=true->Q .nx [.d (aJ R),.d (.lst (qs.map Rh)),.d (.lst (ws.map dE)),.d (.lst ((R8 R qs).map λ(k:Nat)=>D.int (k:Int))),.d (Rh g),r,.d (.int (k:Int)),x7,x8,x9,x10,x11,x12,x13,x14,x15,x16,x17])
  (h2:(∃l∈R8 R qs,k<l/\R5 R k l=false)->∀x7,Q (.rt (.d (.bl false))) [.d (aJ R),.d (.lst (qs.map Rh)),.d (.lst (ws.map dE)),.d (.lst ((R8 R qs).map λ(k:Nat)=>D.int (k:Int))),.d (Rh g),r,.d (.int (k:Int)),x7,x8,x9,x10,x11,x12,x13,x14,x15,x16,x17]) :
  cu (bj 7) cV ((R8 R qs).map λ(k:Nat)=>D.int (k:Int)) [.d (aJ R),.d (.lst (qs.map Rh)),.d (.lst (ws.map dE)),.d (.lst ((R8 R qs).map λ(k:Nat)=>D.int (k:Int))),.d (Rh g),r,.d (.int (k:Int)),x7,x8,x9,x10,x11,x12,x13,x14,x15,x16,x17] Q:=by
 have pl:=(vm hS).2;refine ma (enc:=λ(k:Nat)=>D.int (k:Int)) (R8 R qs) (λpre Z=>(∀l∈pre,k<l->R5 R k l=true)/\∃x7,oT x7=true/\Z=[.d (aJ R),.d (.lst (qs.map Rh)),.d (.lst (ws.map dE)),.d (.lst ((R8 R qs).map λ(k:Nat)=>D.int (k:Int))),.d (Rh g),r,.d (.int (k:Int)),x7,x8,x9,x10,x11,x12,x13,x14,x15,x16,x17]) _ ⟨x_,_,f7,rfl⟩ ?_ ?_
 .
  rintro pre l suf Z hsp ⟨hp,x7,f7,rfl⟩ Q g1 g2 g3 g4;have lm:l∈R8 R qs:=by rw[hsp];simp
  unfold cV;walk_at "w"
  have nx:(k<l->R5 R k l=true)->∀l'∈pre++[l],k<l'->R5 R k l'=true:=λz l' hl' hkl=>by
   rcases Vg.mp hl' with q|q
   . exact hp l' q hkl
   . rw[Vx.mp q]at hkl ⊢;exact z hkl
  by_cases c:k<l
  .
   rw[if_pos (by omega)];refine⟨R,k,l,pl k hk,pl l lm,rfl,hS.ok,xL,?_⟩;rw[Nl (pl k hk) (pl l lm)]
   cases e:R5 R k l with
   | true =>
    walk_at "w";exact g1 _ ⟨nx λ_=>e,_,rfl,rfl⟩
   | false =>
    walk_at "w";exact g4 _ _ (h2 ⟨l,lm,c,e⟩ _)
  . rw[if_neg (by omega)];exact g1 _ ⟨nx λz=>absurd z c,_,rfl,rfl⟩
 . rintro Z ⟨hp,x7,f7,rfl⟩;exact h1 hp _ f7
theorem OH(p:Prop)[Decidable p]:Qz [D.str (Str.ofString "back"),D.str (Str.ofString "on")] (if p then 1 else 0)=some (.str (dD (decide p))):=by
 by_cases h:p
 . rw[if_pos h,UX h];rfl
 . rw[if_neg h,UM h];rfl
theorem Nm(v w:Bool):Q6 (dE v) (.str (dD w))=decide (v=w):=by cases v<;>cases w<;>decide +kernel
theorem Nn(b:Bool)(q:Rat):Qz [D.tup [.int 0,.int 1],Rh q] (if b=true then 1 else 0)=some (Rh (if b=true then q else 0)):=by cases b<;>rfl
theorem Np{R:aQ}{qs:List Rat}{ws:List Bool}{g:Rat}{b:Addr}{rs:List D}{k:Nat}{x7 x8 x9 x10 x11 x12 x13 x14 x15 x16 x17:L}{Q:Fl->Ev->Prop}(hS:dG R qs)(hw:ws.length=R.asks.length)(hk:k<R.asks.length)(hg:RB 1540 g)(hr:rs.length<20)
  (h:∀y8 y9 y10 y11 y12 y13 y14 y15:D,Q .nx [.d (aJ R),.d (.lst (qs.map Rh)),.d (.lst (ws.map dE)),.d (.lst ((R8 R qs).map λ(k:Nat)=>D.int (k:Int))),.d (Rh (if g<R.sz k then R.sz k else g)),.own b (rs++[RI (Fd R qs ws k)]),.d (.int (k:Int)),x7,.d y8,.d y9,.d y10,.d y11,.d y12,.d y13,.d y14,.d y15,x16,x17]) :
  bY [.d (aJ R),.d (.lst (qs.map Rh)),.d (.lst (ws.map dE)),.d (.lst ((R8 R qs).map λ(k:Nat)=>D.int (k:Int))),.d (Rh g),.own b rs,.d (.int (k:Int)),x7,x8,x9,x10,x11,x12,x13,x14,x15,x16,x17] Q:=by
 have hkq:k<qs.length:=by rw[hS.len];exact hk
 have rb:=hS.ok.rb (UO hk);have sz:=iL hk;rw[sz]at h;have ew:ws[k]'(by omega)=ws.getD k true:=by rw[UK,fI xL];rfl
 have er:pO R k=decide (R.asks[k].one<R.asks[k].other):=by unfold pO;rw[UK,fI hk];rfl
 have el:(Sd R k:Int)=if(R.asks[k].other:Int)<(R.asks[k].one:Int)then(R.asks[k].other:Int)else(R.asks[k].one:Int):=by rw[nL,c7 hk];unfold rm;split<;>omega
 have tail:∀(g':Rat),(∀y8 y9 y10 y11 y12 y13 y14 y15:D,Q .nx [.d (aJ R),.d (.lst (qs.map Rh)),.d (.lst (ws.map dE)),.d (.lst ((R8 R qs).map λ(k:Nat)=>D.int (k:Int))),.d (Rh g'),.own b (rs++[RI (Fd R qs ws k)]),.d (.int (k:Int)),x7,.d y8,.d y9,.d y10,.d y11,.d y12,.d y13,.d y14,.d y15,x16,x17])->bX [.d (aJ R),.d (.lst (qs.map Rh)),.d (.lst (ws.map dE)),.d (.lst ((R8 R qs).map λ(k:Nat)=>D.int (k:Int))),.d (Rh g'),.own b rs,.d (.int (k:Int)),x7,.d (.str R.asks[k].nm),.d (.int (R.asks[k].one:Int)),.d (.int (R.asks[k].other:Int)),.d (Rh R.asks[k].size),x12,x13,x14,x15,x16,x17] Q:=λg' h=>by
  unfold bX;walk_at "w";refine⟨xp,λ_=>⟨_,OH _,?_⟩⟩;rw[show decide ((R.asks[k].one:Int)<(R.asks[k].other:Int))=pO R k by rw[er,Wq];omega];unfold et;walk_at "w";refine⟨R,qs,k,pO R k,rfl,hS,hkq,?_⟩;walk_at "w";unfold d9;walk_at "w";refine⟨xp,xp,λ_=>⟨_,a7 (show k<ws.length by omega),cx _,?_⟩⟩;rw[Nm];refine⟨_,Nn _ _,?_⟩;unfold d8;walk_at "w";refine⟨_,_,rfl,?_,(tI hS hkq _).mono xp,?_⟩
  .
   split
   . exact rb.mono xp
   . exact RB.zero.mono xp
  walk_at "w";unfold d7;walk_at "w";refine⟨xp,so hr xp,?_⟩
  have eg:(if ws[k]'(by omega)=pO R k then R.asks[k].size else 0)-RX R qs k (!pO R k)=cy R qs k (ws.getD k true):=by unfold cy RX;rw[ew,sz];cases pO R k<;>rfl
  have e2:D.tup [.int (if(R.asks[k].other:Int)<(R.asks[k].one:Int)then(R.asks[k].other:Int)else(R.asks[k].one:Int)),Rh ((if ws[k]'(by omega)=pO R k then R.asks[k].size else 0)-RX R qs k (!pO R k))]=RI (Fd R qs ws k):=by rw[eg,<- el];rfl
  rw[e2];exact h _ _ _ _ _ _ _ _
 unfold bY;walk_at "w";refine⟨_,a7 hk,?_⟩;walk_at "w";unfold eA;walk_at "w";refine⟨_,_,rfl,hg.mono xp,rb.mono xp,?_⟩;walk_at "w";by_cases c:g<R.asks[k].size
 . rw[if_pos c]at h ⊢;exact tail _ h
 . rw[if_neg c]at h ⊢;exact tail _ h
theorem Ff{R:aQ}{qs:List Rat}{ws:List Bool}:∀os:List Nat,uF (os.map (RI ∘ Fd R qs ws))=true
 |[]=>rfl
 | k::os=>by rw[Ve];simp only[uF,Ff os,VF];rfl
theorem OI{hf t g:Rat}:(decide (hf<t+g) ||decide (t+g<0-hf))=decide (hf<if t+g<0 then -(t+g)else t+g):=by
 rw[VT,WK,UP,UP,UP];constructor
 . rintro (h|h)<;>split<;>grind
 .
  intro h;split at h
  . exact .inr (by grind)
  . exact .inl h
theorem Nq(q:Rat):D.tup [.int (if q.num<0 then -q.num else q.num),.int (q.den:Int)]=Rh (if q<0 then -q else q):=by
 unfold Rh;by_cases c:q<0
 .
  have:q.num<0:=by rw[<- Rat.not_le,<- Rat.num_nonneg]at c;omega
  rw[if_pos c,if_pos this,Rat.neg_num,Rat.neg_den]
 .
  have:¬q.num<0:=by have:=Rat.num_nonneg.mpr (Rat.not_lt.mp c);omega
  rw[if_neg c,if_neg this]
theorem lN:∀ls k4,ls.length=4->dC ls k4->dU (ls++List.replicate 14 .un) (aY ls k4):=by
 rintro ls k4 - ⟨R,qs,ws,rfl,hS,hw,hf,ht⟩;have pl:=(vm hS).2;have p20:=(vm hS).1;obtain⟨M,d0,d1,da,dp⟩:=hS.cd;have hl:=hS.len;have hw':=hw;unfold dU;walk_at "w";refine⟨xp,?_⟩;unfold gy;walk_at "w";refine⟨xp,λb=>?_⟩;unfold gw;walk_at "w";refine ma (enc:=λ(k:Nat)=>D.int (k:Int)) (R8 R qs) (λpre Z=>(∀k∈pre,∀l∈R8 R qs,k<l->R5 R k l=true)/\∃(g:Rat)(x6 x7 x8 x9 x10 x11 x12 x13 x14 x15 x16 x17:L),Z=[.d (aJ R),.d (.lst (qs.map Rh)),.d (.lst (ws.map dE)),.d (.lst ((R8 R qs).map λ(k:Nat)=>D.int (k:Int))),.d (Rh g),.own b (pre.map λk=>RI (Fd R qs ws k)),x6,x7,x8,x9,x10,x11,x12,x13,x14,x15,x16,x17]/\[x6,x7,x8,x9,x10,x11,x12,x13,x14,x15,x17].all oT=true/\RB 1540 g/\g=Se R pre 0) _ ⟨x_,0,_,_,_,_,_,_,_,_,_,_,_,_,rfl,rfl,RB.zero.mono xp,rfl⟩ ?_ ?_
 .
  rintro pre k suf Z hsp ⟨hc,g,x6,x7,x8,x9,x10,x11,x12,x13,x14,x15,x16,x17,rfl,hfl,hg,eg⟩ Q h1 h2 h3 h4;have km:k∈R8 R qs:=by rw[hsp];simp
  have pln:pre.length<20:=by have:=WG List.length hsp;rw[Vk,V9]at this;omega
  simp only[Wm,List.all_nil,VF,UQ]at hfl;obtain⟨_,f7,_,_,_,_,_,_,_,_,SB⟩:=hfl;unfold gu;walk_at "w";refine OG hS km f7 (λhck x7 f7=>?_) fun⟨l,lm,hkl,e⟩ x7=>h4 _ _ ?_
  .
   refine Np hS hw (pl k km) hg (by rw[UN];exact pln) λy8 y9 y10 y11 y12 y13 y14 y15=>h1 _ ⟨λk' hk' l hl hkl=>?_,_,_,_,_,_,_,_,_,_,_,_,_,_,by rw[VQ];rfl,by simp only[Wm,List.all_nil,DE,f7,SB,VF],?_,?_⟩
   .
    rcases Vg.mp hk' with q|q
    . exact hc k' q l hl hkl
    . rw[Vx.mp q]at hkl ⊢;exact hck l hl hkl
   .
    split
    . rw[iL (pl k km)];exact hS.ok.rb (UO _)
    . exact hg
   . rw[eg];unfold Se;rw[List.foldl_append];rfl
  . refine⟨_,aj (aj (aj (aj aP))),hf λz=>?_⟩;rw[wd (qS R qs) z k l km lm hkl]at e;cases e
 .
  rintro Z ⟨hc,g,x6,x7,x8,x9,x10,x11,x12,x13,x14,x15,x16,x17,rfl,hfl,hg,eg⟩;have hn:=Fc (qS R qs) λk l hk hl hkl=>hc k hk l hl hkl;obtain⟨os,op,ow⟩:=ID R (R8 R qs);have ht:=ht os hn op ow;have pw:=BE hn op ow;unfold gv;walk_at "w";refine⟨xp,?_⟩;unfold gp;walk_at "w";have lo:∀{i j:Nat},rm (ba R i)<rm (ba R j)->(Sd R i:Int)<(Sd R j:Int):=λ{i j} z=>by rw[nL,nL];omega
  have opr:(os.map (Fd R qs ws)).Perm ((R8 R qs).map (Fd R qs ws)):=op.map _;have opw:(os.map (Fd R qs ws)).Pairwise λx y=>x.1<y.1:=by rw[List.pairwise_map];exact pw.imp λz=>lo z.1
  refine⟨by simpa only[Wm,List.all_nil,VF]using hfl,(R8 R qs).map (Fd R qs ws),by rw[Vn];rfl,by rw[UN];omega,?_,λc out outp outw=>?_⟩
  . refine(List.Perm.nodup_iff (opr.map _)).mp ?_;refine List.Pairwise.imp (λ{a b} (z:a<b)=>Int.ne_of_lt z) ?_;rw[List.pairwise_map];exact opw
  obtain rfl:out=os.map (Fd R qs ws):=Fe outw opw (outp.trans opr.symm);have ol:os.length<=20:=by rw[op.length_eq];exact p20
  have osl:∀k∈os,k<R.asks.length:=λk hk=>pl k (op.mem_iff.mp hk);clear outp outw opr opw;rw[Vn];refine⟨by rw[A8];exact Ff os,?_⟩;walk_at "w"
  have eh:Rat.divInt g.num (2*(g.den:Int))=bZ R (R8 R qs):=by
   unfold bZ;rw[<- eg]
   have e1:Rat.divInt g.num (2*(g.den:Int))=Rat.divInt 1 2*g:=by
    conv=>rhs;rw[<- Vm g,V8,Int.one_mul]
   rw[e1,Rat.mul_comm];have e2:Rat.divInt 1 2=1 / 2:=by decide +kernel
   rw[e2]
  have hb:=Aw hS.ok pl;have dpos:=g.den_pos;refine cF _ (λj Z=>∃(t:Rat)(y15 y17:L),Z=[.d (aJ R),.d (.lst (qs.map Rh)),.d (.lst (ws.map dE)),.d (.lst ((R8 R qs).map λ(k:Nat)=>D.int (k:Int))),.d (Rh g),.own b ((R8 R qs).map λk=>RI (Fd R qs ws k)),x6,x7,x8,x9,x10,x11,x12,x13,x14,y15,.d (Rh t),y17]/\RB (5704*j+1) t/\t.den∣M/\Sj (bZ R (R8 R qs)) t (Sl R qs ws (os.drop j))=Sj (bZ R (R8 R qs)) 0 (Sl R qs ws os)) _ ⟨0,_,_,rfl,RB.zero,⟨M,(Nat.one_mul M).symm⟩,rfl⟩ ?_ ?_
  .
   rintro j x Z hj ⟨t,y15,y17,rfl,htr,td,e⟩ Q h1 h2 h3 h4;rw[UU]at hj
   have hj':j<os.length:=by
    rcases Nat.lt_or_ge j os.length with q|q
    . exact q
    . rw[VZ q]at hj;exact absurd hj x_
   rw[fI hj']at hj;cases hj;have hk':=osl _ (UO hj');have hkp:os[j]<qs.length:=by omega
   rw[Vi hj']at e;have gr:=Ax hS hkp (ws.getD os[j] true);have gd:=wQ hl d0 da dp hkp (ws.getD os[j] true);have sr:=htr.add gr;have sd:=qa d0 td gd;have b6:5704*(j+1)+1<=114081:=by omega
   have tn:t.den*(cy R qs os[j] (ws.getD os[j] true)).den<2^9000 :=
    so (bp (U1 (Wl d0 td) d1) (U1 (Wl d0 gd) d1)) (UW xp xp)
   have e:Sj (bZ R (R8 R qs)) t (cy R qs os[j] (ws.getD os[j] true)::Sl R qs ws (os.drop (j+1)))=Sj (bZ R (R8 R qs)) 0 (Sl R qs ws os):=e;rw[BJ]at e;rw[OI]at e;show eY [17,15] (.tup [.int (Sd R os[j]:Int),Rh (cy R qs os[j] (ws.getD os[j] true))]) _ _;generalize cy R qs os[j] (ws.getD os[j] true)=gn at *;walk_at "w";unfold gj;walk_at "w";refine⟨t,gn,rfl,htr.mono xL,gr.mono xp,tn,?_⟩;walk_at "w";unfold d6;walk_at "w";refine⟨bF xp,hg.bd xp,_,_,rfl,xL,?_,?_⟩
   .
    rw[V6,U5];have e0:(2:Nat)*2^1540<=2^9000:=by rw[<- Nat.pow_succ'];exact UW xp xp
    refine so ?_ e0;exact Nat.mul_lt_mul_of_pos_left hg.2 xp
   rw[eh,Nq];dsimp only
   have ar:RB (5704*(j+1)+1) (if t+gn<0 then -(t+gn)else t+gn):=by
    split
    . exact(MX sr).mono xL
    . exact sr.mono xL
   refine⟨xp,_,_,rfl,hb.mono xp,ar.mono xL,?_⟩;dsimp only
   generalize (if t+gn<0 then -(t+gn)else t+gn)=av at *
   by_cases c:bZ R (R8 R qs)<av
   . rw[if_pos (UX c)];rw[UX c,Bool.not_true,Wg]at e;rw[<- e]at ht;exact h4 _ _ ⟨_,aj (aj (aj (aj aP))),ht⟩
   . rw[if_neg (by rw[UM c];decide)];rw[UM c,Bool.not_false,VR]at e;exact h1 _ ⟨_,_,_,rfl,sr.mono xL,sd,e⟩
  . rintro Z ⟨t,y15,y17,rfl,htr,td,e⟩;rw[UN,Wp]at e;unfold gm;walk_at "w";rw[<- e]at ht;exact⟨_,aj (aj (aj (aj aP))),ht⟩
def iV:FS:=λls k4=>∃(R:aQ)(qs:List Rat)(ws:List Bool),ls=[.d (aJ R),.d (.lst (qs.map Rh)),.d (.lst (ws.map dE))]/\dG R qs/\ws.length=R.asks.length/\R6 (R5 R) (R8 R qs)=none/\(List.range R.asks.length).all (Si R qs (R8 R qs) ws)=true /\
 (∀os:List Nat,os.Perm (R8 R qs)->os.Pairwise (λi j=>Sd R i<=Sd R j)->Sj (bZ R (R8 R qs)) 0 (Sl R qs ws os)=true)/\k4 (.d (.bl true)) ls
def lO:W Fl:=(aW (bz 6 (bB (aI gi (aq (ak 0) (aq (ak 1) (aq (ak 5) (aq (ak 3) aH)))))))
  (QZ (FQ (aN (ay (pX true) (ak 5) (ak 4))) (aN (ay uE (ak 6) (ay aM (ay aM (ay aM (ak 0) (wC (.int 1))) (ak 5)) (wC (.int 3)))))) (bu (wC (.bl false))) bA))
def lP:W Fl:=(bu (aI dC (aq (ak 0) (aq (ak 1) (aq (ak 2) (aq (ak 4) aH))))))
def lQ:W Fl:=(aW (qM (xO (ak 2)) (eY [5,3]) lO)
  lP)
def lR:W Fl:=(QZ (QW (nD (aN (QY (gN "str") (ak 3)))) (aN (ay (pX true) (ak 3) (ju (aq (wC (.str "on")) (aq (wC (.str "back")) aH)))))) (bu (wC (.bl false))) bA)
def lS:W Fl:=(aW (bz 4 (bB (aI fR (aq (ak 0) (aq (ak 1) aH)))))
  lQ)
def lT:W Fl:=(aW (qM (uv (ak 2)) (bj 3) lR)
  lS)
def ka:W Fl:=(aW (QZ (QW (nD (aN (QY (gN "list") (ak 2)))) (aN (ay uE (aZ cZ (aq (ak 2) aH)) (aZ cZ (aq (ay aM (ak 0) (wC (.int 1))) aH))))) (bu (wC (.bl false))) bA)
  lT)
theorem OJ(w:Bool):QJ (dE w) [D.str (Str.ofString "on"),D.str (Str.ofString "back")]=true:=by cases w <;> decide +kernel
theorem KR{R:aQ}{qs:List Rat}{ws:List Bool}{k:Nat}(hS:dG R qs)(hk:k<R.asks.length)(np:k∉R8 R qs)(h:Si R qs (R8 R qs) ws k=true):RX R qs k (!ws.getD k true)=R.sz k:=by
 have lo:=hS.lo k (by rw[hS.len];exact hk);have c:¬R7 R qs k=true:=λz=>np (VG.mpr ⟨Vd.mpr (by rw[hS.len];exact hk),z⟩);unfold R7 at c;rw[UQ,UP,UP]at c;unfold Si at h;rw[UM np,Bool.false_or,WK,UP,UP]at h;unfold RX;rcases h with q|q
 . rw[q]at lo ⊢;split<;>grind
 .
  rw[q];by_cases z:qs.getD k 0=R.sz k
  . rw[UX z];simp only[Bool.not_true,V2,Wv];exact z
  . rw[UM z];simp only[Bool.not_false,Ww];grind
theorem KS(ws:List Bool):fh (ws.map dE)=(List.range ws.length).map λ(k:Nat)=>D.tup [.int (k:Int),dE (ws.getD k true)]:=by
 unfold fh;refine List.ext_getElem x_ λj h1 h2=>?_;have hj:j<ws.length:=by simpa using h2
 simp[hj]
theorem ui:∀ls k4,ls.length=3->iV ls k4->ka (ls++List.replicate 4 .un) (aY ls k4):=by
 rintro ls k4 - ⟨R,qs,ws,rfl,hS,hw,hc,kw,hwi,h⟩;have few:=hS.ok.few;have hl:=hS.len;unfold ka;walk_at "w";rw[if_neg (by omega)];unfold lT;walk_at "w";refine ma (enc:=dE) ws (λ_ Z=>∃x3,Z=[.d (aJ R),.d (.lst (qs.map Rh)),.d (.lst (ws.map dE)),x3,.un,.un,.un]) _ ⟨_,rfl⟩ ?_ ?_
 . rintro pre w suf Z hsp ⟨x3,rfl⟩ Q h1 h2 h3 h4;unfold lR;walk_at "w";rw[if_neg (by rw[show oG "str" (dE w)=true from rfl]; decide),OJ,if_neg (by decide)];exact⟨xp,rfl,rfl,h1 _ ⟨_,rfl⟩⟩
 .
  rintro Z ⟨x3,rfl⟩;unfold lS;walk_at "w";refine⟨R,qs,4000,rfl,hS.ok,hS.len,BH hS,xp,λa4=>?_⟩;walk_at "w";unfold lQ;walk_at "w";rw[KS,show(List.filter (λk=>decide (0<qs.getD k 0) && decide (qs.getD k 0<R.sz k)) (List.range qs.length))=R8 R qs from rfl];refine Cs _ (λ_ Z=>∃x3 x5 x6,Z=[.d (aJ R),.d (.lst (qs.map Rh)),.d (.lst (ws.map dE)),x3,.d (.lst ((R8 R qs).map λ(k:Nat)=>D.int (k:Int))),x5,x6]) _ ⟨_,_,_,rfl⟩ ?_ ?_
  .
   rintro k Z hk ⟨x3,x5,x6,rfl⟩ Q h1 h2 h3 h4;have hk':k<R.asks.length:=by omega
   unfold lO;walk_at "w";refine⟨R,qs,k,ws.getD k true,rfl,hS,xL,?_⟩;walk_at "w";refine⟨rfl,yl _,?_⟩;rw[oX];by_cases c1:k∈R8 R qs
   . rw[if_neg (by rw[UX c1];decide)];exact h1 _ ⟨_,_,_,rfl⟩
   . rw[if_pos (UM c1)];have e:=KR hS hk' c1 (VE.mp kw k (Vd.mpr hk'));rw[iL hk']at e;refine⟨_,a7 hk',?_⟩;walk_at "w";rw[e];simp only[not_true,Wv,ite_false];exact h1 _ ⟨_,_,_,rfl⟩
  . rintro Z ⟨x3,x5,x6,rfl⟩;unfold lP;walk_at "w";refine⟨R,qs,ws,rfl,hS,hw,λz=>absurd hc z,λos _ op ow=>?_⟩;rw[hwi os op ow];exact⟨_,aj (aj (aj aP)),h⟩
def kb:FS:=λls k4=>∃(R:aQ)(ps:List Rat)(M:Nat),ls=[.d (aJ R),.d (.lst (ps.map Rh))]/\Sn R ps M/\k4 (.d (.bl true)) ls
def m5:W Fl:=(bu (ay Gg (aZ zJ (aq (bB (aI dH (aq (ak 0) (aq (ak 1) aH)))) aH)) (ak 4)))
def m6:W Fl:=(aW (sF (rS 2 (wC (.int 1))))
  m5)
def m7:W Fl:=(aW (sF (rS 2 (wC (.int 0))))
  m6)
def m8:W Fl:=(aW (bz 4 (bB (kN 2 (aZ zJ (aq (ak 2) aH)))))
  m7)
def m9:W Fl:=(aW (QZ (aN (ay DN (kN 2 (aI cz (aq (ak 0) (aq (ak 1) (aq (ak 2) aH))))) (wC (.bl true)))) (bu (wC (.bl false))) bA)
  m8)
def ng:W Fl:=(aW (QZ (nD (aN (kN 2 (aI iV (aq (ak 0) (aq (ak 3) (aq (kN 2 (ay aM (ak 2) (wC (.int 1)))) aH))))))) (bu (wC (.bl false))) bA)
  m9)
def nh:W Fl:=(aW (QZ (QW (aN (ay F6 (ak 3) (wC .non))) (aN (ay Jk (kN 2 (aZ cZ (aq (kN 2 (ay aM (ak 2) (wC (.int 0)))) aH))) (aZ cZ (aq (bB (aI fR (aq (ak 0) (aq (ak 1) aH)))) aH))))) (bu (wC (.bl false))) bA)
  ng)
def nj:W Fl:=(aW (bz 3 (bB (kN 2 (aI iU (aq (ak 0) (aq (ak 1) (aq (kN 2 (ay aM (ak 2) (wC (.int 0)))) aH)))))))
  nh)
def nq:W Fl:=(aW (QZ (QW (nD (aN (kN 2 (QY (gN "tuple") (ak 2))))) (QW (aN (ay uE (kN 2 (aZ cZ (aq (ak 2) aH))) (wC (.int 2)))) (nD (aN (kN 2 (QY (gN "list") (kN 2 (ay aM (ak 2) (wC (.int 0)))))))))) (bu (wC (.bl false))) bA)
  nj)
def lU:W Fl:=(aW (bz 2 (aI dH (aq (ak 0) (aq (ak 1) aH))))
  nq)
theorem Fg{R:aQ}{M:Nat}:∀(m:Nat)(qs:List Rat),Sn R qs M->∀s∈kB R m qs,RB 1800 s.am/\s.k<20/\s.l<20
 |0,_,_,s,hs=>by cases hs
 | m+1,qs,h,s,hs=>by
  unfold kB at hs
  cases e:rn R qs with
  |none=>rw[e]at hs;cases hs
  | some u =>
   rw[e]at hs;obtain⟨h1,h2,_,_,_,_⟩:=jG h.ok e;have ha:=z8 h.ok e h.d0 h.da h.dp;have hl:=h.ok.len;have few:=h.ok.ok.few;rcases UV.mp hs with rfl|hs
   .
    refine⟨Bu h1.nn (R1 h1.kn (R1 (h.ok.ns h1.k s.kw).2 ?_)) h.d0 h.d1 ha,by have:=h1.k;omega,by have:=h1.l;omega⟩;have hk':s.k<R.asks.length:=by rw[<- hl];exact h1.k
    rw[iL hk'];exact(h.ok.ok.ask _ (UO hk')).lt
   . exact Fg m (R0 qs u) (h.slid h1 ha) s hs
theorem KU(n:Nat)(ss:List eB):Ri (n+3) (.lst (ss.map RW))=true:=by
 simp only[Ri];refine iw _ λs _=>?_;have h1:PyData.strOk (dD s.kw)=true:=by cases s.kw<;>decide +kernel
 have h2:PyData.strOk (dD s.lw)=true:=by cases s.lw<;>decide +kernel
 simp[RW,Ri,qN,h1,h2,ya]
theorem w5{n:Nat}:∀{ds:List D},(∀d∈ds,xS d<=n)->sX ds<=(n+2)*ds.length
 |[],_=>by simp[sX]
 | d::ds,h=>by have h1:=h d p4;have h2:=w5 λx hx=>h x (gV _ hx);simp only[sX,V9];rw[Nat.mul_add];omega
theorem Nr(s:eB):xS (RW s)<=3000:=by obtain⟨k,kw,l,lw,am⟩:=s;cases kw<;>cases lw<;>(simp only[RW,Rh,xS,sX];decide)
theorem Fh{ss:List eB}{ws:List Bool}(hl:ss.length<=20)(hw:ws.length<=20)(hs:∀s∈ss,RB 1800 s.am/\s.k<20/\s.l<20):Ce (.tup [.lst (ss.map RW),.lst (ws.map dE)]):=by
 refine Ce.of ?_ ?_ ?_
 .
  have o1:=KU 36 ss;have o2:Ri 39 (.lst (ws.map dE))=true:=by simp only[Ri];exact iw _ λw _=>by cases w<;>decide +kernel
  simp only[Ri,qN,VF,UQ];simp only[Ri]at o1 o2;exact⟨o1,o2⟩
 .
  have s1:cO (ss.map RW)=true:=fk _ λs h=>by obtain⟨h1,h2,h3⟩:=hs s h;have p:∀{n:Nat},n<20->(n:Int).natAbs<2^1900:=λ{n} q=>Bq (n:=5) (by rw[U5];omega) xp;simp only[RW,b9,cO,VF,VR,UQ,UP];exact⟨p h2,p h3,rW h1 xp⟩
  have s2:cO (ws.map dE)=true:=fk _ λw _=>rfl;simp only[b9,cO,s1,s2,Bool.and_self]
 .
  have g1:=w5 (n:=3000) (ds:=ss.map RW) λd hd=>by obtain⟨s,_,rfl⟩:=VA.mp hd;exact Nr s
  have g2:=w5 (n:=50) (ds:=ws.map dE) λd hd=>by obtain⟨w,_,rfl⟩:=VA.mp hd;cases w<;>decide
  rw[UN]at g1 g2;simp only[xS,sX];omega
theorem uU:∀ls k4,ls.length=2->kb ls k4->lU (ls++List.replicate 3 .un) (aY ls k4):=by
 rintro ls k4 - ⟨R,ps,M,rfl,hD,h⟩;obtain⟨r1,r2,r3⟩:=wk 20 0 ps hD;have few:=hD.ok.ok.few;have s20:=IE hD.ok;have hc:=yu hD.ok;unfold lU;walk_at "w";refine⟨R,ps,rfl,hD.ok,λa b os op ow=>?_⟩;have op:os.Perm (R8 R (iy R 20 ps)):=op;have hw:(Sg R (iy R 20 ps) (bZ R (R8 R (iy R 20 ps))) 0 (Sh R (iy R 20 ps)) os).length=R.asks.length:=by rw[Et,BF r3.ok]
 have rp:=Fh (ws:=Sg R (iy R 20 ps) (bZ R (R8 R (iy R 20 ps))) 0 (Sh R (iy R 20 ps)) os) s20 xL (Fg 20 ps hD);walk_at "w";unfold nq;walk_at "w";rw[if_neg (by decide)];unfold nj;walk_at "w";refine⟨R,ps,rfl,hD.ok,λc=>?_⟩;walk_at "w";unfold nh;walk_at "w";refine⟨R,ps,4000,rfl,hD.ok.ok,hD.ok.len,BH hD.ok,xp,λd=>?_⟩;walk_at "w";have sl:=we 20 ps hD.ok;have el:(List.filter (λk=>decide (0<ps.getD k 0) && decide (ps.getD k 0<R.sz k)) (List.range ps.length))=R8 R ps:=rfl;rw[el,if_neg (by omega)];unfold ng;walk_at "w";have wi:∀os':List Nat,os'.Perm (R8 R (iy R 20 ps))->os'.Pairwise (λi j=>Sd R i<=Sd R j)->Sj (bZ R (R8 R (iy R 20 ps))) 0 (Sl R (iy R 20 ps) (Sg R (iy R 20 ps) (bZ R (R8 R (iy R 20 ps))) 0 (Sh R (iy R 20 ps)) os) os')=true:=λos' op' ow'=>by obtain rfl:=z9 hc op ow op' ow';exact Ex r3.ok op
 refine⟨R,_,_,rfl,r3.ok,hw,hc,Ew r3.ok op _,wi,?_⟩;walk_at "w";unfold m9;walk_at "w";refine Ht hD op ow ?_;walk_at "w";unfold m8;walk_at "w";refine⟨_,rfl,rfl,rp,?_⟩;walk_at "w";unfold m7;walk_at "w";refine⟨0,rfl,_,_,rfl,?_⟩;unfold m6;walk_at "w";refine⟨1,rfl,_,_,rfl,?_⟩;unfold m5;walk_at "w";refine⟨R,ps,rfl,hD.ok,λa' b' os' op' ow'=>?_⟩;obtain rfl:=z9 hc op ow op' ow';walk_at "w";refine⟨_,rfl,rfl,rp,?_⟩;walk_at "w";exact⟨_,aj (aj aP),h⟩
def fs_law:FS:=λls k4=>∃ns:List Int,ls=[.d (.lst (ns.map .int))]/\ns.length<=63/\k4 (.d (.bl true)) ls
theorem Fi{ns:List Int}(hl:ns.length<=63):fs_law [.d (.lst (ns.map .int))] (λr _=>r=.d (.bl true)):=⟨ns,rfl,hl,rfl⟩
def KW:W L:=(ak 0)
def vq:W Fl:=(QZ (QW (aN (ay uE (ak 8) (qL aH))) (QW (aN (ay uE (ak 10) (qL aH))) (aN (ay Gh (aZ DL (aq (ju (aq (ak 2) (aq (ak 4) aH))) aH)) (ak 5))))) (bu (wC (.bl false))) bA)
def vt:W Fl:=(aW (bz 10 (kL 1 [2,9,6] (uC (aZ cZ (aq (ak 6) aH))) (bj 0) (FQ (aN (ay uE (ay aM (ay aM (ay aM (ak 1) (wC (.int 1))) (ak 0)) (wC (.int 3))) (ju (aq (wC (.int 0)) (aq (wC (.int 1)) aH))))) (aN (ay uE (ay aM (ak 2) (ak 0)) (ay aM (ak 3) (ak 0))))) KW))
  vq)
def Fj:W L:=(ay aM (qL (aq (ju (aq (wC (.int 0)) (aq (wC (.int 1)) aH))) (aq (ay aM (ak 0) (wC (.int 3))) aH))) (aZ xC (aq (ay pN (ak 1) (wC (.str "on"))) aH)))
def vv:W Fl:=(aW (xJ [8,9] (aI dH (aq (ak 2) (aq (ak 7) aH))))
  vt)
def Fk:W L:=(ay aM (qL (aq (wC (.str "on")) (aq (wC (.str "back")) aH))) (b8 aV 0 1 (pS 1 (aq (wC (.int 2)) aH))))
def vw:W Fl:=(aW (bz 7 (kL 2 [] (NA (ay aM (ak 2) (wC (.int 1))) (ak 6)) (eY [0,1]) kK Fj))
  vv)
def vx:W Fl:=(aW (bz 6 (kL 1 [3] (uv (ay aM (ak 2) (wC (.int 1)))) (bj 0) kK Fk))
  vw)
def vz:W Fl:=(aW (QZ (nD (aN (aI kb (aq (ak 2) (aq (ak 4) aH))))) (bu (wC (.bl false))) bA)
  vx)
def vA:W Fl:=(aW (bz 5 (bB (aZ DL (aq (ju (aq (ak 2) (aq (ak 4) aH))) aH))))
  vz)
def vB:W Fl:=(aW (bz 4 (bB (b8 j4 0 3 (pS 3 (aq (ak 2) aH)))))
  vA)
def vC:W Fl:=(aW (bz 3 (aI c9 (aq (ak 0) (aq (bB (ay dO (ak 1) (wC (.int 3)))) aH))))
  vB)
def Fm:W Fl:=(aW (bz 2 (bB (aI lF (aq (ak 0) (aq (ak 1) (aq (wC (.int 12)) (aq (wC (.int 12)) aH)))))))
  vC)
def KY:W Fl:=(aW (qM (JI (wC (.int 0)) (aZ Ds (aq (wC (.int 4)) (aq (bB (aZ zv (aq (bB (aZ cZ (aq (ak 0) aH))) (aq (wC (.int 12)) aH)))) aH))) (wC (.int 4))) (bj 1) Fm)
  (bu (wC (.bl true))))
noncomputable def Uy(R:aQ)(ws:List Bool):List Rat:=(R.asks.zip ws).map λx=>if x.2 then x.1.size else 0
theorem KZ{R:aQ}{ws:List Bool}(h:ws.length=R.asks.length){k:Nat}(hk:k<R.asks.length):(Uy R ws).getD k 0=if ws.getD k true then R.sz k else 0:=by unfold Uy;rw[UK,UU,fI (by rw[VO];omega),WE,iL hk,UK,fI (show k<ws.length by omega)];rfl
theorem BO{R:aQ}{ws:List Bool}(h:ws.length=R.asks.length):(Uy R ws).length=R.asks.length:=by unfold Uy;rw[UN,VO];omega
theorem OK{R:aQ}{qs:List Rat}{ws:List Bool}(hS:dG R qs)(h:ws.length=R.asks.length):dG R (Uy R ws):=by
 obtain⟨D,d0,d1,da,dp⟩:=hS.cd;refine⟨hS.ok,BO h,λk hk=>?_,D,d0,d1,da,λp hp=>?_⟩
 .
  rw[BO h]at hk;rw[KZ h hk];have:=hS.lo k (by rw[hS.len];exact hk);have s0:=WI this.1 this.2;split
  . exact⟨s0,WL⟩
  . exact⟨WL,s0⟩
 .
  unfold Uy at hp;obtain⟨x,hx,rfl⟩:=VA.mp hp;have:=da x.1 (List.of_mem_zip hx).1;split
  . exact this
  . exact Nat.one_dvd _
theorem Hv{R:aQ}{ps:List Rat}(hR:R.Ok)(hT:∀a∈R.asks,RB 60 a.size)(h8:R.asks.length<=20)(h:EV R ps):∃D:Nat,Sn R ps D:=by
 have d2:Cp R.asks<=2^1200:=UT (zV hT) (UW xp xL);have d3:Cp R.asks*12<=2^1210:=UT (Nat.mul_le_mul d2 (show 12<=2^10 by decide)) (by rw[<- Nat.pow_add];exact US _);have d4:Cp R.asks*12<2^1500:=U1 d3 (Nat.pow_lt_pow_right xp xp);have d0:0<Cp R.asks*12:=Nat.mul_pos (v7 _) xp;have da:∀a∈R.asks,a.size.den∣Cp R.asks*12:=λa ha=>Nat.dvd_trans (rV ha) (Nat.dvd_mul_right _ _)
 have dp:∀p∈ps,p.den∣Cp R.asks*12:=λp hp=>by
  obtain⟨k,hk,rfl⟩:=Vu hp;have hk':k<R.asks.length:=by rw[<- h.len];exact hk
  obtain⟨v,v0,v1,e⟩:=h.tw k hk';rw[<- bM hk,e];refine Nat.dvd_trans (zY _ _) (Nat.mul_dvd_mul ?_ ?_)
  . rw[iL hk'];exact rV (UO hk')
  . have:=zX (t:=v) (b:=12) xp;exact this
 refine⟨Cp R.asks*12,⟨⟨hR,h.len,λk hk=>?_,_,d0,d4,da,dp⟩,d0,d4,da,dp⟩⟩;have hk':k<R.asks.length:=by rw[<- h.len];exact hk
 have hz:k<(R.asks.zip ps).length:=by rw[VO];omega
 have:=h.lo _ (UO hz);rw[WE]at this;rw[bM hk,iL hk'];exact this
theorem BP{R:aQ}{ws:List Bool}(hw:ws.length=R.asks.length):R8 R (Uy R ws)=[]:=by
 unfold R8;rw[List.filter_eq_nil_iff];intro k hk;have hk:=Vd.mp hk;rw[BO hw]at hk;unfold R7;rw[KZ hw hk,UQ,UP,UP];split
 . exact λz=>Rat.lt_irrefl z.2
 . exact λz=>Rat.lt_irrefl z.1
theorem Hw{R:aQ}{ws:List Bool}(hw:ws.length=R.asks.length):kB R 20 (Uy R ws)=[]/\iy R 20 (Uy R ws)=Uy R ws:=by
 have e:rn R (Uy R ws)=none:=by unfold rn;rw[BP hw];rfl
 unfold kB iy;rw[e];exact⟨rfl,rfl⟩
theorem Hx{R:aQ}{ws:List Bool}(hw:ws.length=R.asks.length){k:Nat}(hk:k<R.asks.length)(hz:R.sz k≠0):(Sh R (Uy R ws)).getD k true=ws.getD k true:=by
 have hl:=BO hw;have e:(Sh R (Uy R ws)).getD k true=decide ((Uy R ws).getD k 0=R.sz k):=by unfold Sh;rw[UK,UU,fI (by rw[VO];omega),WE,iL hk,bM xL];rfl
 rw[e,KZ hw hk]
 cases ws.getD k true with
 |true=>exact UX rfl
 |false=>exact UM (λz=>hz z.symm)
theorem K0(v w:Bool):Q6 (dE v) (dE w)=decide (v=w):=by cases v<;>cases w<;>decide +kernel
theorem Fn{α:Type}{β:Type}:∀as:List α,as.filterMap (λ_=>(none:Option β))=[]
 |[]=>rfl
 |a::as=>by rw[Vz,Fn as]
theorem sf:fY (.lst []):=DV []
theorem K1{r:Int}(h0:0<=r)(h1:r < 2):∃ w:Bool,Qz [D.str (Str.ofString "on"),D.str (Str.ofString "back")] r=some (dE w):=by
 have:r=0∨r=1:=by omega
 rcases this with rfl|rfl
 . exact⟨true,rfl⟩
 . exact⟨false,rfl⟩
theorem K2:∀ls k4,ls.length=1->fs_law ls k4->KY (ls++List.replicate 10 .un) (aY ls k4):=by
 rintro ls k4 - ⟨ns,rfl,hl,h⟩;unfold KY;walk_at "w";refine⟨⟨xL,xL⟩,⟨?_,?_⟩,xp,xp,?_⟩
 . split<;>split<;>omega
 . split<;>split<;>omega
 refine G0 _ (λj Z=>∃x1 x2 x3 x4 x5 x6 x7 x8 x9 x10,Z=[.d (.lst (ns.map .int)),x1,x2,x3,x4,x5,x6,x7,x8,x9,x10]) _ ⟨_,_,_,_,_,_,_,_,_,_,rfl⟩ ?_ ?_
 .
  rintro j Z hj ⟨x1,x2,x3,x4,x5,x6,x7,x8,x9,x10,rfl⟩ Q h1 h2 h3 h4;have hj':(4:Int)*j<12:=by have:=MV xp hj;split at this<;>split at this<;>omega
  obtain⟨m,hm⟩:∃m:Nat,m=4*j:=⟨_,rfl⟩;have ej:(0:Int)+(j:Int)*4=(m:Int):=by omega
  unfold Fm;rw[ej];walk_at "w";refine⟨ns,m,12,12,rfl,xL,xp,xp,xp,λR hDr=>?_⟩;have hR:=hDr.ok;have few:=hR.few;walk_at "w";unfold vC;walk_at "w";refine⟨ns,(m:Int)+3,rfl,xL,xL,λb xs hx=>?_⟩;walk_at "w";unfold vB;walk_at "w";refine⟨b,xs,R,rfl,hx,hR,hDr.tt,λps c ys hy hp=>⟨ys,rfl,?_⟩⟩;obtain⟨M,hD⟩:=Hv hR hDr.tt few hp;have rk:sW (.tup [aJ R,.lst (ps.map Rh)]):=GZ hR hDr.nt hp.rb xp (by rw[hp.len];exact few);walk_at "w";unfold vA;walk_at "w";refine⟨xp,_,rfl,rfl,rk,?_⟩;walk_at "w";unfold vz;walk_at "w";refine⟨R,ps,M,rfl,hD,?_⟩;walk_at "w";unfold vx;walk_at "w";refine⟨UT few xp,?_⟩;refine vY _ (λi Z acc=>∃(l:L)(zs:List D)(ws:List Bool),Z=[l,.own b zs]/\uy zs/\acc=ws.map dE/\ws.length=i) _ _ ⟨_,ys,[],rfl,hy,rfl,rfl⟩ ?_ ?_
  . rintro i x Z acc hx ⟨l,zs,ws,rfl,hz,rfl,hw⟩ Q' hQ;unfold kK Fk;walk_at "w";refine⟨xp,λ_=>⟨b,zs,2,rfl,hz,xp,xp,λr vs hv r0 r1=>⟨vs,rfl,?_⟩⟩⟩;obtain⟨w,ew⟩:=K1 r0 r1;exact⟨_,ew,hQ _ _ ⟨_,vs,ws++[w],rfl,hv,by rw[VQ];rfl,by simp[hw]⟩⟩
  .
   rintro Z acc ⟨l,zs,ws,rfl,hz,rfl,hw⟩;rw[UN]at hw;walk_at "w";intro a;unfold vw;walk_at "w";have e:Ft (R.asks.map kg) (ws.map dE)=(R.asks.zip ws).map λx=>D.tup [kg x.1,dE x.2]:=by unfold Ft;rw[List.zip_map,Vn];rfl
   rw[e];refine⟨by rw[UN,VO];exact UT (show min R.asks.length ws.length<=20 by omega) xp,?_⟩
   refine xW (h:=λx=>Rh (if x.2 then x.1.size else 0)) _ _ _ _ (λx hx Q q=>?_) λl m a2=>?_
   .
    unfold Fj;walk_at "w";obtain⟨a,w⟩:=x
    cases w with
    |true=>exact⟨xp,xp,λ_=>⟨cx _,_,rfl,q⟩⟩
    |false=>exact⟨xp,xp,λ_=>⟨cx _,_,rfl,q⟩⟩
   rw[VS]
   have ew:(R.asks.zip ws).map (λx=>Rh (if x.2=true then x.1.size else 0))=(Uy R ws).map Rh:=by unfold Uy;rw[Vn];rfl
   rw[ew];have hW:=OK hD.ok hw;obtain⟨e1,e2⟩:=Hw (R:=R) hw;have hn:=BF hW;unfold vv;walk_at "w";refine⟨R,_,rfl,hW,λa3 a4 os op ow=>?_⟩;rw[e2,show eQ R (Uy R ws)=[]from BP hw]at op;obtain rfl:os=[]:=List.Perm.eq_nil op;rw[e1,e2];rw[show Sg R (Uy R ws) (bZ R (eQ R (Uy R ws))) 0 (Sh R (Uy R ws)) []=Sh R (Uy R ws)from rfl];walk_at "w";unfold vt;walk_at "w";rw[VL,me];refine⟨⟨xL,xL⟩,by rw[UN,Vc];exact UT (show ws.length<=20 by omega) xp,?_⟩;refine i8 (enc:=λ(k:Nat)=>D.int (k:Int)) (h:=λ_=>none) (List.range ws.length) [] _ (λk hk Q q=>?_) λl a5=>?_
   .
    have hk:=Vd.mp hk;have hk':k<R.asks.length:=by omega
    walk_at "w";refine⟨_,a7 hk',?_⟩;walk_at "w";refine⟨xp,rR 0,?_⟩;have ez:Q6 (Rh R.asks[k].size) (.tup [.int 0,.int 1])=decide (R.asks[k].size=0):=A6 _ 0;rw[ez];by_cases c2:R.asks[k].size=0
    . rw[if_neg (by rw[UX c2];decide)];exact q
    .
     rw[if_pos (UM c2)];have c3:R.sz k≠0:=by rw[iL hk'];exact c2
     have e:=Hx hw hk' c3;rw[UK,fI (show k<(Sh R (Uy R ws)).length by omega),UK,fI hk,Option.getD_some,Option.getD_some]at e;refine⟨_,a7 (show k<(Sh R (Uy R ws)).length by omega),_,a7 hk,cx _,cx _,?_⟩;rw[K0,e];simp only[decide_true,Bool.true_eq_false,Wv];exact q
   rw[Fn,VS];walk_at "w";unfold vq;walk_at "w";have en:Q6 (.lst []) (.lst [])=true:=by decide +kernel
   refine⟨xp,λ_=>⟨sf,sf,?_⟩⟩;rw[en,if_neg (by decide)];refine⟨xp,λ_=>⟨sf,sf,?_⟩⟩;rw[if_neg (by decide)];refine⟨xp,_,rfl,rfl,rk,?_⟩;walk_at "w";exact h1 _ ⟨_,_,_,_,_,_,_,_,_,_,rfl⟩
 . rintro Z ⟨x1,x2,x3,x4,x5,x6,x7,x8,x9,x10,rfl⟩;exact⟨_,aj aP,h⟩
structure Tx (K:PySem.W.Frag) (mg:Str->Option Value) (ad:Nat->Addr) (fd:Nat->FuncData):Prop where
 x_greatest_shared:FX K mg "greatest_shared" fm (ad 0) (fd 0) ["one","other"]
 x_is_whole:FX K mg "is_whole" qe (ad 1) (fd 1) ["thing"]
 x_is_number_below:FX K mg "is_number_below" fu (ad 2) (fd 2) ["thing","many"]
 x_are_two_wholes:FX K mg "are_two_wholes" gD (ad 3) (fd 3) ["thing"]
 x_is_ratio:FX K mg "is_ratio" qg (ad 4) (fd 4) ["thing"]
 x_lowest:FX K mg "lowest" wo (ad 5) (fd 5) ["top","bottom"]
 x_plus:FX K mg "plus" EE (ad 6) (fd 6) ["one","other"]
 x_minus:FX K mg "minus" Aa (ad 7) (fd 7) ["one","other"]
 x_times:FX K mg "times" Ab (ad 8) (fd 8) ["one","other"]
 x_under:FX K mg "under" Ac (ad 9) (fd 9) ["one","other"]
 x_greater:FX K mg "greater" tK (ad 10) (fd 10) ["one","other"]
 x_lesser:FX K mg "lesser" wq (ad 11) (fd 11) ["one","other"]
 x_lesser_place:FX K mg "lesser_place" iM (ad 12) (fd 12) ["ring","k"]
 x_greater_place:FX K mg "greater_place" g8 (ad 13) (fd 13) ["ring","k"]
 x_do_cross:FX K mg "do_cross" qh (ad 14) (fd 14) ["ring","k","l"]
 x_parted_in:FX K mg "parted_in" jH (ad 15) (fd 15) ["ring","sending"]
 x_first_side_by_side:FX K mg "first_side_by_side" dz (ad 16) (fd 16) ["ring","some"]
 x_is_way:FX K mg "is_way" wu (ad 17) (fd 17) ["thing"]
 x_other_way:FX K mg "other_way" nM (ad 18) (fd 18) ["way"]
 x_ties_of:FX K mg "ties_of" kT (ad 19) (fd 19) ["ring","k","way"]
 x_are_ways:FX K mg "are_ways" mi (ad 20) (fd 20) ["ring","thing"]
 x_part_behind:FX K mg "part_behind" jI (ad 21) (fd 21) ["part","way","amount"]
 x_slid_once:FX K mg "slid_once" nN (ad 22) (fd 22) ["sending","slide"]
 x_share_no_tie:FX K mg "share_no_tie" fM (ad 23) (fd 23) ["ring","k","way","l","other"]
 x_has_form_of_slide:FX K mg "has_form_of_slide" dP (ad 24) (fd 24) ["thing","asks"]
 x_not_sent:FX K mg "not_sent" qj (ad 25) (fd 25) ["ring","sending","k","way"]
 x_most_slid:FX K mg "most_slid" nQ (ad 26) (fd 26) ["ring","sending","slide"]
 x_is_slide:FX K mg "is_slide" qk (ad 27) (fd 27) ["ring","sending","thing"]
 x_slid_by:FX K mg "slid_by" tP (ad 28) (fd 28) ["ring","sending","thing"]
 x_ways_apart:FX K mg "ways_apart" kU (ad 29) (fd 29) ["ring","k","l"]
 x_greatest_slide:FX K mg "greatest_slide" gE (ad 30) (fd 30) ["ring","sending","k","l"]
 x_slides_for:FX K mg "slides_for" kW (ad 31) (fd 31) ["ring","sending"]
 x_nearest_way:FX K mg "nearest_way" jJ (ad 32) (fd 32) ["ask","part"]
 x_keeps_whole_asks:FX K mg "keeps_whole_asks" eL (ad 33) (fd 33) ["ring","slid","parted","ways"]
 x_half_of_greatest:FX K mg "half_of_greatest" eM (ad 34) (fd 34) ["ring","some"]
 x_by_lesser_place:FX K mg "by_lesser_place" c8 (ad 35) (fd 35) ["ring","some"]
 l_by_lesser_place:MF K "by_lesser_place" (fd 35) c8
 x_rising_way:FX K mg "rising_way" kX (ad 36) (fd 36) ["ring","k"]
 x_gain_of:FX K mg "gain_of" tQ (ad 37) (fd 37) ["ring","sending","k","way"]
 x_keeps_within:FX K mg "keeps_within" iN (ad 38) (fd 38) ["ring","slid","parted","ways"]
 x_lets_rounding:FX K mg "lets_rounding" g9 (ad 39) (fd 39) ["ring","sending","thing"]
 x_rounded_ways:FX K mg "rounded_ways" fN (ad 40) (fd 40) ["ring","slid"]
 x_rounding_of:FX K mg "rounding_of" jK (ad 41) (fd 41) ["ring","sending"]
 x__law_begun:FX K mg "_law_begun" kY (ad 42) (fd 42) ["_law_script","_law_k"]
 x__law_take:FX K mg "_law_take" nR (ad 43) (fd 43) ["_law_state","_law_many"]
 x__law_names:FX K mg "_law_names" gb (ad 44) (fd 44) ["_law_state","_law_many"]
 x__law_low:FX K mg "_law_low" qn (ad 45) (fd 45) ["_law_top","_law_bottom"]
 x__law_amount:FX K mg "_law_amount" jL (ad 46) (fd 46) ["_law_state","_law_least","_law_kind"]
 x__law_rooms:FX K mg "_law_rooms" k6 (ad 47) (fd 47) ["_law_state","_law_ties_here","_law_kind"]
 x__law_ends:FX K mg "_law_ends" nS (ad 48) (fd 48) ["_law_state","_law_shape","_law_places","_law_k"]
 x__law_ring:FX K mg "_law_ring" nT (ad 49) (fd 49) ["_law_script","_law_at","_law_most","_law_count"]
 x__law_parts:FX K mg "_law_parts" k7 (ad 50) (fd 50) ["_law_state","_law_ring_here"]
 x__law_plus:FX K mg "_law_plus" nU (ad 51) (fd 51) ["_law_one","_law_other"]
 x__law_minus:FX K mg "_law_minus" k8 (ad 52) (fd 52) ["_law_one","_law_other"]
 x__law_slid:FX K mg "_law_slid" nV (ad 53) (fd 53) ["_law_sending","_law_slide"]
 x__law_ties:FX K mg "_law_ties" nW (ad 54) (fd 54) ["_law_ring_here","_law_k","_law_way"]
 x__law_under:FX K mg "_law_under" k9 (ad 55) (fd 55) ["_law_one","_law_other"]
 x__law_is_ratio:FX K mg "_law_is_ratio" hG (ad 56) (fd 56) ["_law_thing"]
 x__law_gone:FX K mg "_law_gone" nX (ad 57) (fd 57) ["_law_ring_here","_law_sending","_law_k","_law_way"]
 x__law_is_slide:FX K mg "_law_is_slide" eN (ad 58) (fd 58) ["_law_ring_here","_law_sending","_law_thing"]
 x__law_behind:FX K mg "_law_behind" jM (ad 59) (fd 59) ["_law_ring_here","_law_sending","_law_thing"]
 x__law_parted:FX K mg "_law_parted" jN (ad 60) (fd 60) ["_law_ring_here","_law_sending"]
 x__law_cross:FX K mg "_law_cross" iz (ad 61) (fd 61) ["_law_ring_here","_law_k","_law_l"]
 x__law_crossed_sums:FX K mg "_law_crossed_sums" dQ (ad 62) (fd 62) ["_law_ring_here","_law_behind_here","_law_ways","_law_parted_here"]
 x__law_rounds:FX K mg "_law_rounds" jO (ad 63) (fd 63) ["_law_ring_here","_law_behind_here","_law_ways"]
 x__law_right:FX K mg "_law_right" lh (ad 64) (fd 64) ["_law_ring_here","_law_sending"]
 x_law:FX K mg "law" An (ad 65) (fd 65) ["_law_script"]
 z_abs:mg "abs"=none
 z_all:mg "all"=none
 z_any:mg "any"=none
 z_bool:mg "bool"=none
 z_enumerate:mg "enumerate"=none
 z_int:mg "int"=none
 z_isinstance:mg "isinstance"=none
 z_len:mg "len"=none
 z_list:mg "list"=none
 z_max:mg "max"=none
 z_min:mg "min"=none
 z_range:mg "range"=none
 z_repr:mg "repr"=none
 z_sorted:mg "sorted"=none
 z_str:mg "str"=none
 z_tuple:mg "tuple"=none
 z_zip:mg "zip"=none
 g_BACK:zy K mg "BACK" (.str "back")
 g_HALF:zy K mg "HALF" (.tup [(.int 1),(.int 2)])
 g_NOUGHT:zy K mg "NOUGHT" (.tup [(.int 0),(.int 1)])
 g_ON:zy K mg "ON" (.str "on")
section
variable{P:Program}{w:World}{K:PySem.W.Frag}{mg:Str->Option Value}{base:Heap}{ad:Nat->Addr}{fd:Nat->FuncData}
theorem cJ:aE qd ["one","other"] (au fm):=⟨rfl,rfl,rfl,y_,rfl,y_,y_⟩
theorem iD(T:Tx K mg ad fd):FnOk P w K mg base CX0 1 (ad 0) (fd 0) ["one","other"] (spF K 2 cG) :=
 bb (k:=0) T.x_greatest_shared.f cJ fv (λcdv A outer s H E hr=>(ai (oO UY (QX (kJ hr.units) (ae 1) ah (aT _)) (ai (aD (i:=2) cJ.nd rfl v6 (aC dX (ae 0) (ae 1)))
  (ai (aD (i:=0) cJ.nd rfl v6 (ae 1))
  (ao (aD (i:=1) cJ.nd rfl v6 (ae 2))))))
  (ao (aB (aR AV rfl T.z_abs y_ (af (ae 0) ag))))))
  n4
theorem AA:aE Ct ["thing"] (au qe):=⟨rfl,rfl,rfl,y_,rfl,y_,y_⟩
theorem oE(T:Tx K mg ad fd):FnOk P w K mg base CX0 1 (ad 1) (fd 1) ["thing"] (spF K 1 hJ) :=
 bb (k:=0) T.x_is_whole.f AA mj (λcdv A outer s H E hr=>(ao (aB (i4 (dY zw rfl T.z_isinstance rfl T.z_int y_ (ae 0)) (mH (Dl (dY vR rfl T.z_isinstance rfl T.z_bool y_ (ae 0))))))))
  yF
theorem pJ:aE qf ["thing","many"] (au fu):=⟨rfl,rfl,rfl,y_,rfl,y_,y_⟩
theorem iE(T:Tx K mg ad fd):FnOk P w K mg base CX0 2 (ad 2) (fd 2) ["thing","many"] (spF K 2 cH) :=
 bb (k:=1) T.x_is_number_below.f pJ fw (λcdv A outer s H E hr=>(ao (aB (i4 (aL (oE T) T.x_is_whole hr (af (ae 0) ag)) (mH (F7 Mf Me ah (ae 0) (ae 1)))))))
  n5
theorem qC:aE rC ["thing"] (au gD):=⟨rfl,rfl,rfl,y_,rfl,y_,y_⟩
theorem qD(T:Tx K mg ad fd):FnOk P w K mg base CX0 2 (ad 3) (fd 3) ["thing"] (spF K 1 fz) :=
 bb (k:=1) T.x_are_two_wholes.f qC dM (λcdv A outer s H E hr=>(ao (aB (i4 (dY i7 rfl T.z_isinstance rfl T.z_tuple y_ (ae 0)) (i4 (eE (fZ hr.units) (aR cN rfl T.z_len y_ (af (ae 0) ag)) ah (aT _)) (i4 (aL (oE T) T.x_is_whole hr (af (ax (ae 0) ah (λ_ _=>rfl)) ag)) (mH (aL (oE T) T.x_is_whole hr (af (ax (ae 0) ah (λ_ _=>rfl)) ag)))))))))
  o5
theorem AB:aE Cu ["thing"] (au qg):=⟨rfl,rfl,rfl,y_,rfl,y_,y_⟩
theorem AC(T:Tx K mg ad fd):FnOk P w K mg base CX0 3 (ad 4) (fd 4) ["thing"] (spF K 1 n6) :=
 bb (k:=2) T.x_is_ratio.f AB ml (λcdv A outer s H E hr=>(ao (aB (i4 (aL (qD T) T.x_are_two_wholes hr (af (ae 0) ag)) (i4 (eE LW (ax (ae 0) ah (λ_ _=>rfl)) ah (aT _)) (mH (eE (fZ hr.units) (aL (iD T) T.x_greatest_shared hr (af (ax (ae 0) ah (λ_ _=>rfl)) (af (ax (ae 0) ah (λ_ _=>rfl)) ag))) ah (aT _))))))))
  yG
theorem uj:aE He ["top","bottom"] (au wo):=⟨rfl,rfl,rfl,y_,rfl,y_,y_⟩
theorem uk(T:Tx K mg ad fd):FnOk P w K mg base CX0 2 (ad 5) (fd 5) ["top","bottom"] (spF K 2 lj) :=
 bb (k:=1) T.x_lowest.f uj wG (λcdv A outer s H E hr=>(ai (aD (i:=2) uj.nd rfl v6 (az (aL (iD T) T.x_greatest_shared hr (af (ae 0) (af (ae 1) ag)))))
  (ai (bG (QX mx (ae 1) ah (aT _)) (ao (aD (i:=2) uj.nd rfl v6 (LP (ae 2)))) aU)
  (ao (aB (bq (af (aC sL (ae 0) (ae 2)) (af (aC sL (ae 1) (ae 2)) ag))))))))
  CA
theorem K3:aE M9 ["one","other"] (au EE):=⟨rfl,rfl,rfl,y_,rfl,y_,y_⟩
theorem w7(T:Tx K mg ad fd):FnOk P w K mg base CX0 3 (ad 6) (fd 6) ["one","other"] (spF K 2 ll) :=
 bb (k:=2) T.x_plus.f K3 EJ (λcdv A outer s H E hr=>(ao (aB (aL (uk T) T.x_lowest hr (af (az (aC bV (aC bo (ax (ae 0) ah (λ_ _=>rfl)) (ax (ae 1) ah (λ_ _=>rfl))) (aC bo (ax (ae 1) ah (λ_ _=>rfl)) (ax (ae 0) ah (λ_ _=>rfl))))) (af (az (aC bo (ax (ae 0) ah (λ_ _=>rfl)) (ax (ae 1) ah (λ_ _=>rfl)))) ag))))))
  Hi
theorem Hy:aE KG ["one","other"] (au Aa):=⟨rfl,rfl,rfl,y_,rfl,y_,y_⟩
theorem pK(T:Tx K mg ad fd):FnOk P w K mg base CX0 3 (ad 7) (fd 7) ["one","other"] (spF K 2 fO) :=
 bb (k:=2) T.x_minus.f Hy Ao (λcdv A outer s H E hr=>(ao (aB (aL (uk T) T.x_lowest hr (af (aC i5 (aC bo (ax (ae 0) ah (λ_ _=>rfl)) (ax (ae 1) ah (λ_ _=>rfl))) (aC bo (ax (ae 1) ah (λ_ _=>rfl)) (ax (ae 0) ah (λ_ _=>rfl)))) (af (az (aC bo (ax (ae 0) ah (λ_ _=>rfl)) (ax (ae 1) ah (λ_ _=>rfl)))) ag))))))
  EK
theorem Hz:aE KH ["one","other"] (au Ab):=⟨rfl,rfl,rfl,y_,rfl,y_,y_⟩
theorem HD(T:Tx K mg ad fd):FnOk P w K mg base CX0 3 (ad 8) (fd 8) ["one","other"] (spF K 2 wH) :=
 bb (k:=2) T.x_times.f Hz Ap (λcdv A outer s H E hr=>(ao (aB (aL (uk T) T.x_lowest hr (af (az (aC bo (ax (ae 0) ah (λ_ _=>rfl)) (ax (ae 1) ah (λ_ _=>rfl)))) (af (az (aC bo (ax (ae 0) ah (λ_ _=>rfl)) (ax (ae 1) ah (λ_ _=>rfl)))) ag))))))
  EM
theorem HE:aE KI ["one","other"] (au Ac):=⟨rfl,rfl,rfl,y_,rfl,y_,y_⟩
theorem gO(T:Tx K mg ad fd):FnOk P w K mg base CX0 1 (ad 9) (fd 9) ["one","other"] (spF K 2 eO) :=
 bb (k:=0) T.x_under.f HE Aq (λcdv A outer s H E hr=>(ao (aB (eE mx (aC bo (ax (ae 0) ah (λ_ _=>rfl)) (ax (ae 1) ah (λ_ _=>rfl))) (aC bo (ax (ae 1) ah (λ_ _=>rfl)) (ax (ae 0) ah (λ_ _=>rfl))) (aT _)))))
  EN
theorem CH:aE EF ["one","other"] (au tK):=⟨rfl,rfl,rfl,y_,rfl,y_,y_⟩
theorem CI(T:Tx K mg ad fd):FnOk P w K mg base CX0 2 (ad 10) (fd 10) ["one","other"] (spF K 2 qo) :=
 bb (k:=1) T.x_greater.f CH tT (λcdv A outer s H E hr=>(ao (aB (oM (bg (aL (gO T) T.x_under hr (af (ae 0) (af (ae 1) ag)))) (ae 1) (ae 0)))))
  Ar
theorem Fo:aE Hf ["one","other"] (au wq):=⟨rfl,rfl,rfl,y_,rfl,y_,y_⟩
theorem Fp(T:Tx K mg ad fd):FnOk P w K mg base CX0 2 (ad 11) (fd 11) ["one","other"] (spF K 2 tU) :=
 bb (k:=1) T.x_lesser.f Fo wJ (λcdv A outer s H E hr=>(ao (aB (oM (bg (aL (gO T) T.x_under hr (af (ae 1) (af (ae 0) ag)))) (ae 1) (ae 0)))))
  CB
theorem um:aE uH ["ring","k"] (au iM):=⟨rfl,rfl,rfl,y_,rfl,y_,y_⟩
theorem ig(T:Tx K mg ad fd):FnOk P w K mg base CX0 1 (ad 12) (fd 12) ["ring","k"] (spF K 2 cQ) :=
 bb (k:=0) T.x_lesser_place.f um iO (λcdv A outer s H E hr=>(ao (aB (aR (AW rfl) rfl T.z_min y_ (af (ax (ax (ax (ae 0) ah (λ_ _=>rfl)) (ae 1) (λ_ _=>rfl)) ah (λ_ _=>rfl)) (af (ax (ax (ax (ae 0) ah (λ_ _=>rfl)) (ae 1) (λ_ _=>rfl)) ah (λ_ _=>rfl)) ag))))))
  rE
theorem rJ:aE tM ["ring","k"] (au g8):=⟨rfl,rfl,rfl,y_,rfl,y_,y_⟩
theorem ku(T:Tx K mg ad fd):FnOk P w K mg base CX0 1 (ad 13) (fd 13) ["ring","k"] (spF K 2 dN) :=
 bb (k:=0) T.x_greater_place.f rJ hU (λcdv A outer s H E hr=>(ao (aB (aR (HS rfl) rfl T.z_max y_ (af (ax (ax (ax (ae 0) ah (λ_ _=>rfl)) (ae 1) (λ_ _=>rfl)) ah (λ_ _=>rfl)) (af (ax (ax (ax (ae 0) ah (λ_ _=>rfl)) (ae 1) (λ_ _=>rfl)) ah (λ_ _=>rfl)) ag))))))
  qq
theorem ij:aE Cv ["ring","k","l"] (au qh):=⟨rfl,rfl,rfl,y_,rfl,y_,y_⟩
theorem AD(T:Tx K mg ad fd):FnOk P w K mg base CX0 2 (ad 14) (fd 14) ["ring","k","l"] (spF K 3 n8) :=
 bb (k:=1) T.x_do_cross.f ij qr (λcdv A outer s H E hr=>(ai (aD (i:=3) ij.nd rfl v6 (az (aL (ig T) T.x_lesser_place hr (af (ae 0) (af (ae 1) ag)))))
  (ai (aD (i:=4) ij.nd rfl v6 (az (aL (ku T) T.x_greater_place hr (af (ae 0) (af (ae 1) ag)))))
  (ai (aD (i:=5) ij.nd rfl v6 (az (aL (ig T) T.x_lesser_place hr (af (ae 0) (af (ae 2) ag)))))
  (ai (aD (i:=6) ij.nd rfl v6 (az (aL (ku T) T.x_greater_place hr (af (ae 0) (af (ae 2) ag)))))
  (ao (aB (NT (xP (ae 3) (sT.cons mx (ae 5) (sT.cons mx (ae 4) (sT.one mx (ae 6))))) (mH (xP (ae 5) (sT.cons mx (ae 3) (sT.cons mx (ae 6) (sT.one mx (ae 4))))))))))))))
  yI
theorem yU:aE tN ["ring","sending"] (au jH):=⟨rfl,rfl,rfl,y_,rfl,y_,y_⟩
theorem iF(T:Tx K mg ad fd):FnOk P w K mg base CX0 2 (ad 15) (fd 15) ["ring","sending"] (spF K 2 cb) :=
 bb (k:=1) T.x_parted_in.f yU n9 (λcdv A outer s H E hr=>(ao (aB (jB (sc:=(au jH)) (N:=tN) (Nt:=["k","part"]) (Nf:=["ring"]) (fi:=[0]) rfl rfl rfl (l8 rfl T.z_enumerate (ae 1)) rfl y_ y_ y_ xp rfl y_ xp (λ_ _ _ _=>(DB rfl (l9 (i:=0) xp (show((["k","part"]:List Str)++(["ring"]:List Str)).Nodup by decide +kernel) rfl (Or.inl rfl) (l9 (i:=1) xp (show((["k","part"]:List Str)++(["ring"]:List Str)).Nodup by decide +kernel) rfl (Or.inl rfl) zB)))) (λ_ _ _ _=>(vP (QV.pb (nE (bg (aL (gO T) T.x_under hr (af (oH T.g_NOUGHT rfl) (af (ae 1) ag)))) (l6 (bg (aL (gO T) T.x_under hr (af (ae 1) (af (ax (ax (ax (ae 2) ah (λ_ _=>rfl)) (ae 0) (λ_ _=>rfl)) ah (λ_ _=>rfl)) ag))))))))) (λ_ _ _ _=>(ae 0))))))
  wK
theorem bQ:aE my ["ring","some"] (au dz):=⟨rfl,rfl,rfl,y_,rfl,y_,y_⟩
theorem cW(T:Tx K mg ad fd):FnOk P w K mg base CX0 3 (ad 16) (fd 16) ["ring","some"] (spF K 2 a8) :=
 bb (k:=2) T.x_first_side_by_side.f bQ dA (λcdv A outer s H E hr=>(ai (cD UY rfl (l8 rfl T.z_enumerate (ae 1)) (gJ rfl (aO (i:=2) bQ.nd rfl v6 (aO (i:=3) bQ.nd rfl v6 dj))) (ao (cD UY rfl (bU (oS (ae 1) (aC bV (ae 2) ah) trivial)) (eF (i:=4) bQ.nd rfl v6) (ao (bG (bT (bg (aL (AD T) T.x_do_cross hr (af (ae 0) (af (ae 3) (af (ae 4) ag)))))) (ao (aB (bq (af (ae 3) (af (ae 4) ag))))) aU)))))
  (ao (aB u6))))
  kE
theorem Fq:aE Hg ["thing"] (au wu):=⟨rfl,rfl,rfl,y_,rfl,y_,y_⟩
theorem uo(T:Tx K mg ad fd):FnOk P w K mg base CX0 1 (ad 17) (fd 17) ["thing"] (spF K 1 lp) :=
 bb (k:=0) T.x_is_way.f Fq wL (λcdv A outer s H E hr=>(ao (aB (i4 (dY zx rfl T.z_isinstance rfl T.z_str y_ (ae 0)) (mH (eE F4 (ae 0) (bq (af (oH T.g_ON rfl) (af (oH T.g_BACK rfl) ag))) rfl))))))
  CC
theorem yV:aE Ad ["way"] (au nM):=⟨rfl,rfl,rfl,y_,rfl,y_,y_⟩
theorem yW(T:Tx K mg ad fd):FnOk P w K mg base CX0 1 (ad 18) (fd 18) ["way"] (spF K 1 lq) :=
 bb (k:=0) T.x_other_way.f yV oa (λcdv A outer s H E hr=>(ao (aB (oM (QX (fZ hr.units) (ae 0) (oH T.g_ON rfl) (aT _)) (oH T.g_BACK rfl) (oH T.g_ON rfl)))))
  wM
theorem mr:aE tO ["ring","k","way"] (au kT):=⟨rfl,rfl,rfl,y_,rfl,y_,y_⟩
theorem vD(T:Tx K mg ad fd):FnOk P w K mg base CX0 1 (ad 19) (fd 19) ["ring","k","way"] (spF K 3 mn) :=
 bb (k:=0) T.x_ties_of.f mr t7 (λcdv A outer s H E hr=>(ai (aD (i:=3) mr.nd rfl v6 (az (aR cN rfl T.z_len y_ (af (ax (ae 0) ah (λ_ _=>rfl)) ag))))
  (ai (aD (i:=4) mr.nd rfl v6 (ax (ax (ax (ae 0) ah (λ_ _=>rfl)) (ae 1) (λ_ _=>rfl)) ah (λ_ _=>rfl)))
  (ai (aD (i:=5) mr.nd rfl v6 (ax (ax (ax (ae 0) ah (λ_ _=>rfl)) (ae 1) (λ_ _=>rfl)) ah (λ_ _=>rfl)))
  (ai (bG (QX (fZ hr.units) (ae 2) (oH T.g_ON rfl) (aT _)) (ao (aB (jB (sc:=(au kT)) (N:=tO) (Nt:=["step"]) (Nf:=["one","places"]) (fi:=[4,3]) rfl rfl rfl (iq rfl T.z_range (aC dX (aC i5 (ae 5) (ae 4)) (ae 3))) rfl y_ y_ y_ xp rfl y_ xp (λ_ _ _ _=>(iI xp (show((["step"]:List Str)++(["one","places"]:List Str)).Nodup by decide +kernel) rfl (Or.inl rfl))) (λ_ _ _ _=>jA) (λ_ _ _ _=>(aC dX (aC bV (ae 1) (ae 0)) (ae 2)))))) aU)
  (ao (aB (jB (sc:=(au kT)) (N:=tO) (Nt:=["step"]) (Nf:=["one","places"]) (fi:=[4,3]) rfl rfl rfl (iq rfl T.z_range (aC dX (aC i5 (ae 4) (ae 5)) (ae 3))) rfl y_ y_ y_ xp rfl y_ xp (λ_ _ _ _=>(iI xp (show((["step"]:List Str)++(["one","places"]:List Str)).Nodup by decide +kernel) rfl (Or.inl rfl))) (λ_ _ _ _=>jA) (λ_ _ _ _=>(aC dX (aC i5 (aC i5 (ae 1) ah) (ae 0)) (ae 2)))))))))))
  As
theorem AE:aE vn ["ring","thing"] (au mi):=⟨rfl,rfl,rfl,y_,rfl,y_,y_⟩
theorem AF(T:Tx K mg ad fd):FnOk P w K mg base CX0 2 (ad 20) (fd 20) ["ring","thing"] (spF K 2 jP) :=
 bb (k:=1) T.x_are_ways.f AE qt (λcdv A outer s H E hr=>(ai (bG (QV.pb (dh (bT (bg (dY oR rfl T.z_isinstance rfl T.z_list y_ (ae 1)))) (cM (QX (kJ hr.units) (aR cN rfl T.z_len y_ (af (ae 1) ag)) (aR cN rfl T.z_len y_ (af (ax (ae 0) ah (λ_ _=>rfl)) ag)) (aT _))))) (ao (aB cY)) aU)
  (ao (aB (aR (Mn rfl) rfl T.z_all y_ (af (az (jB (sc:=(au mi)) (N:=vn) (Nt:=["way"]) (Nf:=[]) (fi:=[]) rfl rfl rfl (bU (ae 1)) rfl y_ y_ y_ xp rfl y_ xp (λ_ _ _ _=>(iI xp (show((["way"]:List Str)++([]:List Str)).Nodup by decide +kernel) rfl (Or.inl rfl))) (λ_ _ _ _=>jA) (λ_ _ _ _=>(aL (uo T) T.x_is_way hr (af (ae 0) ag))))) ag))))))
  yK
theorem uV:aE wx ["part","way","amount"] (au jI):=⟨rfl,rfl,rfl,y_,rfl,y_,y_⟩
theorem nr(T:Tx K mg ad fd):FnOk P w K mg base CX0 4 (ad 21) (fd 21) ["part","way","amount"] (spF K 3 fP) :=
 bb (k:=3) T.x_part_behind.f uV jQ (λcdv A outer s H E hr=>(ao (aB (oM (QX (fZ hr.units) (ae 1) (oH T.g_ON rfl) (aT _)) (aL (w7 T) T.x_plus hr (af (ae 0) (af (ae 2) ag))) (aL (pK T) T.x_minus hr (af (ae 0) (af (ae 2) ag)))))))
  t8
theorem qY:aE Ae ["sending","slide"] (au nN):=⟨rfl,rfl,rfl,y_,rfl,y_,y_⟩
theorem q8(T:Tx K mg ad fd):FnOk P w K mg base CX0 5 (ad 22) (fd 22) ["sending","slide"] (spF K 2 iA) :=
 bb (k:=4) T.x_slid_once.f qY oe (λcdv A outer s H E hr=>(ai (aD (i:=2) qY.nd rfl v6 (eH vM rfl T.z_list y_ (af (ae 0) ag)))
  (ai (jy 2 (ax (ae 1) ah (λ_ _=>rfl)) (aL (nr T) T.x_part_behind hr (af (g6 (ir 2 (ax (ae 1) ah (λ_ _=>rfl)) (λ_ _=>rfl)) (ax (ae 2) (ax (ae 1) ah (λ_ _=>rfl)) (λ_ _=>rfl))) (af (ax (ae 1) ah (λ_ _=>rfl)) (af (ax (ae 1) ah (λ_ _=>rfl)) ag)))))
  (ai (jy 2 (ax (ae 1) ah (λ_ _=>rfl)) (aL (nr T) T.x_part_behind hr (af (g6 (ir 2 (ax (ae 1) ah (λ_ _=>rfl)) (λ_ _=>rfl)) (ax (ae 2) (ax (ae 1) ah (λ_ _=>rfl)) (λ_ _=>rfl))) (af (ax (ae 1) ah (λ_ _=>rfl)) (af (ax (ae 1) ah (λ_ _=>rfl)) ag)))))
  (ao (aB (gB 2)))))))
  wN
theorem lV:aE mL ["ring","k","way","l","other"] (au fM):=⟨rfl,rfl,rfl,y_,rfl,y_,y_⟩
theorem lW(T:Tx K mg ad fd):FnOk P w K mg base CX0 2 (ad 23) (fd 23) ["ring","k","way","l","other"] (spF K 5 eR) :=
 bb (k:=1) T.x_share_no_tie.f lV iP (λcdv A outer s H E hr=>(ai (aD (i:=5) lV.nd rfl v6 (az (aL (vD T) T.x_ties_of hr (af (ae 0) (af (ae 3) (af (ae 4) ag))))))
  (ao (aB (Dl (aR (Mo rfl) rfl T.z_any y_ (af (az (jB (sc:=(au fM)) (N:=mL) (Nt:=["tie"]) (Nf:=["taken"]) (fi:=[5]) rfl rfl rfl (bU (aL (vD T) T.x_ties_of hr (af (ae 0) (af (ae 1) (af (ae 2) ag))))) rfl y_ y_ y_ xp rfl y_ xp (λ_ _ _ _=>(iI xp (show((["tie"]:List Str)++(["taken"]:List Str)).Nodup by decide +kernel) rfl (Or.inl rfl))) (λ_ _ _ _=>jA) (λ_ _ _ _=>(eE F4 (ae 0) (ae 1) rfl)))) ag)))))))
  rF
theorem mC:aE nO ["thing","asks"] (au dP):=⟨rfl,rfl,rfl,y_,rfl,y_,y_⟩
theorem mD(T:Tx K mg ad fd):FnOk P w K mg base CX0 4 (ad 24) (fd 24) ["thing","asks"] (spF K 2 dB) :=
 bb (k:=3) T.x_has_form_of_slide.f mC dR (λcdv A outer s H E hr=>(ai (bG (QV.pb (dh (bT (bg (dY i7 rfl T.z_isinstance rfl T.z_tuple y_ (ae 0)))) (cM (QX (kJ hr.units) (aR cN rfl T.z_len y_ (af (ae 0) ag)) ah (aT _))))) (ao (aB cY)) aU)
  (ai (bG (QV.pb (dh (bT (bg (aL (iE T) T.x_is_number_below hr (af (ax (ae 0) ah (λ_ _=>rfl)) (af (ae 1) ag))))) (cM (bT (bg (aL (iE T) T.x_is_number_below hr (af (ax (ae 0) ah (λ_ _=>rfl)) (af (ae 1) ag)))))))) (ao (aB cY)) aU)
  (ao (aB (i4 (aL (uo T) T.x_is_way hr (af (ax (ae 0) ah (λ_ _=>rfl)) ag)) (i4 (aL (uo T) T.x_is_way hr (af (ax (ae 0) ah (λ_ _=>rfl)) ag)) (mH (aL (AC T) T.x_is_ratio hr (af (ax (ae 0) ah (λ_ _=>rfl)) ag))))))))))
  lr
theorem AG:aE Cw ["ring","sending","k","way"] (au qj):=⟨rfl,rfl,rfl,y_,rfl,y_,y_⟩
theorem uq(T:Tx K mg ad fd):FnOk P w K mg base CX0 4 (ad 25) (fd 25) ["ring","sending","k","way"] (spF K 4 jR) :=
 bb (k:=3) T.x_not_sent.f AG qu (λcdv A outer s H E hr=>(ao (aB (oM (QX (fZ hr.units) (ae 3) (oH T.g_ON rfl) (aT _)) (aL (pK T) T.x_minus hr (af (ax (ax (ax (ae 0) ah (λ_ _=>rfl)) (ae 2) (λ_ _=>rfl)) ah (λ_ _=>rfl)) (af (ax (ae 1) (ae 2) (λ_ _=>rfl)) ag))) (ax (ae 1) (ae 2) (λ_ _=>rfl))))))
  yL
theorem yX:aE Af ["ring","sending","slide"] (au nQ):=⟨rfl,rfl,rfl,y_,rfl,y_,y_⟩
theorem rf(T:Tx K mg ad fd):FnOk P w K mg base CX0 5 (ad 26) (fd 26) ["ring","sending","slide"] (spF K 3 iB) :=
 bb (k:=4) T.x_most_slid.f yX og (λcdv A outer s H E hr=>(ao (aB (aL (Fp T) T.x_lesser hr (af (az (aL (uq T) T.x_not_sent hr (af (ae 0) (af (ae 1) (af (ax (ae 2) ah (λ_ _=>rfl)) (af (ax (ae 2) ah (λ_ _=>rfl)) ag)))))) (af (az (aL (uq T) T.x_not_sent hr (af (ae 0) (af (ae 1) (af (ax (ae 2) ah (λ_ _=>rfl)) (af (ax (ae 2) ah (λ_ _=>rfl)) ag)))))) ag))))))
  wO
theorem AH:aE Cy ["ring","sending","thing"] (au qk):=⟨rfl,rfl,rfl,y_,rfl,y_,y_⟩
theorem AI(T:Tx K mg ad fd):FnOk P w K mg base CX0 6 (ad 27) (fd 27) ["ring","sending","thing"] (spF K 3 oh) :=
 bb (k:=5) T.x_is_slide.f AH qv (λcdv A outer s H E hr=>by exact(@ai _ _ _ _ _ (@bG _ _ _ _ _ _ _ _ (QV.pb (dh (bT (bg (aL (mD T) T.x_has_form_of_slide hr (@af _ _ _ _ _ _ (ae 2) (@af _ _ _ _ _ _ (@az _ _ _ (aR cN rfl T.z_len y_ (@af _ _ _ _ _ _ (@ax _ _ _ _ _ _ (ae 0) ah (λ_ _=>rfl)) ag z_))) ag z_) z_)))) (cM (QX (fZ hr.units) (@ax _ _ _ _ _ _ (ae 2) ah (λ_ _=>rfl)) (@ax _ _ _ _ _ _ (ae 2) ah (λ_ _=>rfl)) (aT _))))) (@ao _ _ _ (@aB _ _ _ _ cY)) aU) (@ai _ _ _ _ _ (@bG _ _ _ _ _ _ _ _ (bT (bg (aL (lW T) T.x_share_no_tie hr (@af _ _ _ _ _ _ (ae 0) (@af _ _ _ _ _ _ (@ax _ _ _ _ _ _ (ae 2) ah (λ_ _=>rfl)) (@af _ _ _ _ _ _ (@ax _ _ _ _ _ _ (ae 2) ah (λ_ _=>rfl)) (@af _ _ _ _ _ _ (@ax _ _ _ _ _ _ (ae 2) ah (λ_ _=>rfl)) (@af _ _ _ _ _ _ (@ax _ _ _ _ _ _ (ae 2) ah (λ_ _=>rfl)) ag z_) z_) z_) z_) z_)))) (@ao _ _ _ (@aB _ _ _ _ cY)) aU) (@ao _ _ _ (@aB _ _ _ _ (i4 (aL (gO T) T.x_under hr (@af _ _ _ _ _ _ (oH T.g_NOUGHT rfl) (@af _ _ _ _ _ _ (@ax _ _ _ _ _ _ (ae 2) ah (λ_ _=>rfl)) ag z_) z_)) (mH (Dl (aL (gO T) T.x_under hr (@af _ _ _ _ _ _ (@az _ _ _ (aL (rf T) T.x_most_slid hr (@af _ _ _ _ _ _ (ae 0) (@af _ _ _ _ _ _ (ae 1) (@af _ _ _ _ _ _ (ae 2) ag z_) z_) z_))) (@af _ _ _ _ _ _ (@ax _ _ _ _ _ _ (ae 2) ah (λ_ _=>rfl)) ag z_) z_))))))))))
  yM
theorem jo:aE EG ["ring","sending","thing"] (au tP):=⟨rfl,rfl,rfl,y_,rfl,y_,y_⟩
theorem vE(T:Tx K mg ad fd):FnOk P w K mg base CX0 7 (ad 28) (fd 28) ["ring","sending","thing"] (spF K 3 jb) :=
 bb (k:=6) T.x_slid_by.f jo ua (λcdv A outer s H E hr=>(ai (bG (bT (bg (dY oR rfl T.z_isinstance rfl T.z_list y_ (ae 2)))) (ao AS) aU)
  (ai (aD (i:=3) jo.nd rfl v6 (eH vM rfl T.z_list y_ (af (ae 1) ag)))
  (ai (cD UY rfl (l8 rfl T.z_enumerate (ae 2)) (gJ rfl (aO (i:=4) jo.nd rfl v6 (aO (i:=5) jo.nd rfl v6 dj))) (ai (bG (bT (bg (aL (AI T) T.x_is_slide hr (af (ae 0) (af (ae 3) (af (ae 5) ag)))))) (ao AS) aU)
  (ao (aD (i:=3) jo.nd rfl v6 (aL (q8 T) T.x_slid_once hr (af (ae 3) (af (ae 5) ag)))))))
  (ao (aB (gB 3)))))))
  Au
theorem pL:aE yw ["ring","k","l"] (au kU):=⟨rfl,rfl,rfl,y_,rfl,y_,y_⟩
theorem w8(T:Tx K mg ad fd):FnOk P w K mg base CX0 3 (ad 29) (fd 29) ["ring","k","l"] (spF K 3 jS) :=
 bb (k:=2) T.x_ways_apart.f pL lu (λcdv A outer s H E hr=>by exact(@ai _ _ _ _ _ (cD UY rfl (bU (@bq _ _ _ _ _ _ (@af _ _ _ _ _ _ (@bq _ _ _ _ _ _ (@af _ _ _ _ _ _ (oH T.g_ON rfl) (@af _ _ _ _ _ _ (oH T.g_ON rfl) ag z_) z_)) (@af _ _ _ _ _ _ (@bq _ _ _ _ _ _ (@af _ _ _ _ _ _ (oH T.g_ON rfl) (@af _ _ _ _ _ _ (oH T.g_BACK rfl) ag z_) z_)) (@af _ _ _ _ _ _ (@bq _ _ _ _ _ _ (@af _ _ _ _ _ _ (oH T.g_BACK rfl) (@af _ _ _ _ _ _ (oH T.g_ON rfl) ag z_) z_)) ag z_) z_) z_))) (eF (i:=3) pL.nd rfl v6) (@ao _ _ _ (@bG _ _ _ _ _ _ _ _ (bg (aL (lW T) T.x_share_no_tie hr (@af _ _ _ _ _ _ (ae 0) (@af _ _ _ _ _ _ (ae 1) (@af _ _ _ _ _ _ (@ax _ _ _ _ _ _ (ae 3) ah (λ_ _=>rfl)) (@af _ _ _ _ _ _ (ae 2) (@af _ _ _ _ _ _ (@ax _ _ _ _ _ _ (ae 3) ah (λ_ _=>rfl)) ag z_) z_) z_) z_) z_))) (@ao _ _ _ (@aB _ _ _ _ (gB 3))) aU))) (@ao _ _ _ (@aB _ _ _ _ (@bq _ _ _ _ _ _ (@af _ _ _ _ _ _ (oH T.g_BACK rfl) (@af _ _ _ _ _ _ (oH T.g_BACK rfl) ag z_) z_))))))
  uJ
theorem fK:aE rD ["ring","sending","k","l"] (au gE):=⟨rfl,rfl,rfl,y_,rfl,y_,y_⟩
theorem qE(T:Tx K mg ad fd):FnOk P w K mg base CX0 6 (ad 30) (fd 30) ["ring","sending","k","l"] (spF K 4 fF) :=
 bb (k:=5) T.x_greatest_slide.f fK gF (λcdv A outer s H E hr=>(ai (aD (i:=4) fK.nd rfl v6 (az (aL (w8 T) T.x_ways_apart hr (af (ae 0) (af (ae 2) (af (ae 3) ag))))))
  (ai (aD (i:=5) fK.nd rfl v6 (bq (af (ae 2) (af (ax (ae 4) ah (λ_ _=>rfl)) (af (ae 3) (af (ax (ae 4) ah (λ_ _=>rfl)) ag))))))
  (ao (aB (aC JN (ae 5) (bq (af (az (aL (rf T) T.x_most_slid hr (af (ae 0) (af (ae 1) (af (ae 5) ag))))) ag))))))))
  o8
theorem cm:aE yx ["ring","sending"] (au kW):=⟨rfl,rfl,rfl,y_,rfl,y_,y_⟩
theorem w9(T:Tx K mg ad fd):FnOk P w K mg base CX0 7 (ad 31) (fd 31) ["ring","sending"] (spF K 2 jT) :=
 bb (k:=6) T.x_slides_for.f cm lx (λcdv A outer s H E hr=>by exact(@ai _ _ _ _ _ (@aD _ _ _ 2 _ _ _ cm.nd rfl v6 (ae 1) z_ (by first | exact .inl rfl | exact .inr rfl)) (@ai _ _ _ _ _ (@aD _ _ _ 3 _ _ _ cm.nd rfl v6 (@cC _ _ _ _ _ ag) z_ (by first | exact .inl rfl | exact .inr rfl)) (@ai _ _ _ _ _ (@aD _ _ _ 4 _ _ _ cm.nd rfl v6 (@az _ _ _ (aL (cW T) T.x_first_side_by_side hr (@af _ _ _ _ _ _ (ae 0) (@af _ _ _ _ _ _ (@az _ _ _ (aL (iF T) T.x_parted_in hr (@af _ _ _ _ _ _ (ae 0) (@af _ _ _ _ _ _ (ae 2) ag z_) z_))) ag z_) z_))) z_ (by first | exact .inl rfl | exact .inr rfl)) (@ai _ _ _ _ _ (oO UY (QX A1 (ae 4) u6 (aT _)) (@ai _ _ _ _ _ (@aD _ _ _ 5 _ _ _ cm.nd rfl v6 (@az _ _ _ (aL (qE T) T.x_greatest_slide hr (@af _ _ _ _ _ _ (ae 0) (@af _ _ _ _ _ _ (ae 2) (@af _ _ _ _ _ _ (@ax _ _ _ _ _ _ (ae 4) ah (λ_ _=>rfl)) (@af _ _ _ _ _ _ (@ax _ _ _ _ _ _ (ae 4) ah (λ_ _=>rfl)) ag z_) z_) z_) z_))) z_ (by first | exact .inl rfl | exact .inr rfl)) (@ai _ _ _ _ _ (jt (gY 3 (ae 5))) (@ai _ _ _ _ _ (@aD _ _ _ 2 _ _ _ cm.nd rfl v6 (@az _ _ _ (aL (q8 T) T.x_slid_once hr (@af _ _ _ _ _ _ (ae 2) (@af _ _ _ _ _ _ (ae 5) ag z_) z_))) z_ (by first | exact .inl rfl | exact .inr rfl)) (@ao _ _ _ (@aD _ _ _ 4 _ _ _ cm.nd rfl v6 (@az _ _ _ (aL (cW T) T.x_first_side_by_side hr (@af _ _ _ _ _ _ (ae 0) (@af _ _ _ _ _ _ (@az _ _ _ (aL (iF T) T.x_parted_in hr (@af _ _ _ _ _ _ (ae 0) (@af _ _ _ _ _ _ (ae 2) ag z_) z_))) ag z_) z_))) z_ (by first | exact .inl rfl | exact .inr rfl))))))) (@ao _ _ _ (@aB _ _ _ _ (gB 3))))))))
  uK
theorem uW:aE wy ["ask","part"] (au jJ):=⟨rfl,rfl,rfl,y_,rfl,y_,y_⟩
theorem nu(T:Tx K mg ad fd):FnOk P w K mg base CX0 1 (ad 32) (fd 32) ["ask","part"] (spF K 2 fQ) :=
 bb (k:=0) T.x_nearest_way.f uW jU (λcdv A outer s H E hr=>(ao (aB (oM (QX (fZ hr.units) (ae 1) (ax (ae 0) ah (λ_ _=>rfl)) (aT _)) (oH T.g_ON rfl) (oH T.g_BACK rfl)))))
  ub
theorem dW:aE oZ ["ring","slid","parted","ways"] (au eL):=⟨rfl,rfl,rfl,y_,rfl,y_,y_⟩
theorem oF(T:Tx K mg ad fd):FnOk P w K mg base CX0 2 (ad 33) (fd 33) ["ring","slid","parted","ways"] (spF K 4 dS) :=
 bb (k:=1) T.x_keeps_whole_asks.f dW eS (λcdv A outer s H E hr=>(ai (cD UY rfl (l8 rfl T.z_enumerate (ax (ae 0) ah (λ_ _=>rfl))) (gJ rfl (aO (i:=4) dW.nd rfl v6 (aO (i:=5) dW.nd rfl v6 dj))) (ao (bG (QV.pb (nE (QX rP (ae 4) (ae 2) rfl) (nE (QX (kJ hr.units) (ax (ae 5) ah (λ_ _=>rfl)) (oH T.g_NOUGHT rfl) (aT _)) (l6 (QX (kJ hr.units) (ax (ae 3) (ae 4) (λ_ _=>rfl)) (aL (nu T) T.x_nearest_way hr (af (ae 5) (af (ax (ae 1) (ae 4) (λ_ _=>rfl)) ag))) (aT _)))))) (ao (aB cY)) aU)))
  (ao (aB cY))))
  mz
theorem cn:aE o4 ["ring","some"] (au eM):=⟨rfl,rfl,rfl,y_,rfl,y_,y_⟩
theorem ik(T:Tx K mg ad fd):FnOk P w K mg base CX0 4 (ad 34) (fd 34) ["ring","some"] (spF K 2 ck) :=
 bb (k:=3) T.x_half_of_greatest.f cn eU (λcdv A outer s H E hr=>(ai (aD (i:=2) cn.nd rfl v6 (oH T.g_NOUGHT rfl))
  (ai (cD UY rfl (bU (ae 1)) (eF (i:=3) cn.nd rfl v6) (ao (aD (i:=2) cn.nd rfl v6 (az (aL (CI T) T.x_greater hr (af (ae 2) (af (ax (ax (ax (ae 0) ah (λ_ _=>rfl)) (ae 3) (λ_ _=>rfl)) ah (λ_ _=>rfl)) ag)))))))
  (ao (aB (aL (HD T) T.x_times hr (af (ae 2) (af (oH T.g_HALF rfl) ag))))))))
  mB
theorem kF(T:Tx K mg ad fd):JT P w K mg base 2 "by_lesser_place" cB:=MD (k:=1) (p:="k") (y:="ring") (T.l_by_lesser_place.lam.trans rfl) (N7 rfl rfl rfl rfl rfl rfl λ_ _ _ _ _ _=>rfl) cT (λA outer s H f c c' hr=>(aL (ig T) T.x_lesser_place hr (af (ae 1) (af (ae 0) ag)))) jV
theorem pM:aE qm ["ring","some"] (au c8):=⟨rfl,rfl,rfl,y_,rfl,y_,y_⟩
theorem iG(T:Tx K mg ad fd):FnOk P w K mg base CX0 5 (ad 35) (fd 35) ["ring","some"] (spF K 2 cI) :=
 MH (k:=4) T.x_by_lesser_place.f pM fG (λcdv A outer s H E hcv hr=>(ao (aB (Gq (kF T) hr 0 (MG T.l_by_lesser_place hcv rfl xp rfl rfl rfl rfl rfl rfl) (ae 1) T.z_sorted))))
  oi
theorem xa:aE yy ["ring","k"] (au kX):=⟨rfl,rfl,rfl,y_,rfl,y_,y_⟩
theorem kc(T:Tx K mg ad fd):FnOk P w K mg base CX0 1 (ad 36) (fd 36) ["ring","k"] (spF K 2 eV) :=
 bb (k:=0) T.x_rising_way.f xa ly (λcdv A outer s H E hr=>(ao (aB (oM (QX mx (ax (ax (ax (ae 0) ah (λ_ _=>rfl)) (ae 1) (λ_ _=>rfl)) ah (λ_ _=>rfl)) (ax (ax (ax (ae 0) ah (λ_ _=>rfl)) (ae 1) (λ_ _=>rfl)) ah (λ_ _=>rfl)) (aT _)) (oH T.g_ON rfl) (oH T.g_BACK rfl)))))
  uL
theorem qF:aE EH ["ring","sending","k","way"] (au tQ):=⟨rfl,rfl,rfl,y_,rfl,y_,y_⟩
theorem qG(T:Tx K mg ad fd):FnOk P w K mg base CX0 4 (ad 37) (fd 37) ["ring","sending","k","way"] (spF K 4 gU) :=
 bb (k:=3) T.x_gain_of.f qF uc (λcdv A outer s H E hr=>(ai (aD (i:=4) qF.nd rfl v6 (ax (ax (ax (ae 0) ah (λ_ _=>rfl)) (ae 2) (λ_ _=>rfl)) ah (λ_ _=>rfl)))
  (ai (aD (i:=5) qF.nd rfl v6 (az (oM (QX (fZ hr.units) (aL (kc T) T.x_rising_way hr (af (ae 0) (af (ae 2) ag))) (oH T.g_ON rfl) (aT _)) (ax (ae 1) (ae 2) (λ_ _=>rfl)) (aL (pK T) T.x_minus hr (af (ae 4) (af (ax (ae 1) (ae 2) (λ_ _=>rfl)) ag))))))
  (ao (aB (aL (pK T) T.x_minus hr (af (oM (QX (fZ hr.units) (ae 3) (aL (kc T) T.x_rising_way hr (af (ae 0) (af (ae 2) ag))) (aT _)) (ae 4) (oH T.g_NOUGHT rfl)) (af (ae 5) ag))))))))
  Ay
theorem cX:aE uI ["ring","slid","parted","ways"] (au iN):=⟨rfl,rfl,rfl,y_,rfl,y_,y_⟩
theorem ur(T:Tx K mg ad fd):FnOk P w K mg base CX0 6 (ad 38) (fd 38) ["ring","slid","parted","ways"] (spF K 4 hX) :=
 bb (k:=5) T.x_keeps_within.f cX iR (λcdv A outer s H E hr=>by exact(@ai _ _ _ _ _ (@aD _ _ _ 4 _ _ _ cX.nd rfl v6 (@az _ _ _ (aL (ik T) T.x_half_of_greatest hr (@af _ _ _ _ _ _ (ae 0) (@af _ _ _ _ _ _ (ae 2) ag z_) z_))) z_ (by first | exact .inl rfl | exact .inr rfl)) (@ai _ _ _ _ _ (@aD _ _ _ 5 _ _ _ cX.nd rfl v6 (oH T.g_NOUGHT rfl) z_ (by first | exact .inl rfl | exact .inr rfl)) (@ai _ _ _ _ _ (cD UY rfl (bU (aL (iG T) T.x_by_lesser_place hr (@af _ _ _ _ _ _ (ae 0) (@af _ _ _ _ _ _ (ae 2) ag z_) z_))) (eF (i:=6) cX.nd rfl v6) (@ai _ _ _ _ _ (@aD _ _ _ 5 _ _ _ cX.nd rfl v6 (@az _ _ _ (aL (w7 T) T.x_plus hr (@af _ _ _ _ _ _ (ae 5) (@af _ _ _ _ _ _ (@az _ _ _ (aL (qG T) T.x_gain_of hr (@af _ _ _ _ _ _ (ae 0) (@af _ _ _ _ _ _ (ae 1) (@af _ _ _ _ _ _ (ae 6) (@af _ _ _ _ _ _ (@ax _ _ _ _ _ _ (ae 3) (ae 6) (λ_ _=>rfl)) ag z_) z_) z_) z_))) ag z_) z_))) z_ (by first | exact .inl rfl | exact .inr rfl)) (@ao _ _ _ (@bG _ _ _ _ _ _ _ _ (QV.pb (dh (bg (aL (gO T) T.x_under hr (@af _ _ _ _ _ _ (ae 4) (@af _ _ _ _ _ _ (ae 5) ag z_) z_))) (cM (bg (aL (gO T) T.x_under hr (@af _ _ _ _ _ _ (ae 5) (@af _ _ _ _ _ _ (@az _ _ _ (aL (pK T) T.x_minus hr (@af _ _ _ _ _ _ (oH T.g_NOUGHT rfl) (@af _ _ _ _ _ _ (ae 4) ag z_) z_))) ag z_) z_)))))) (@ao _ _ _ (@aB _ _ _ _ cY)) aU)))) (@ao _ _ _ (@aB _ _ _ _ cY))))))
  rG
theorem gI:aE tR ["ring","sending","thing"] (au g9):=⟨rfl,rfl,rfl,y_,rfl,y_,y_⟩
theorem rK(T:Tx K mg ad fd):FnOk P w K mg base CX0 8 (ad 39) (fd 39) ["ring","sending","thing"] (spF K 3 cz) :=
 bb (k:=7) T.x_lets_rounding.f gI ia (λcdv A outer s H E hr=>by exact(@ai _ _ _ _ _ (@bG _ _ _ _ _ _ _ _ (QV.pb (dh (bT (bg (dY i7 rfl T.z_isinstance rfl T.z_tuple y_ (ae 2)))) (dh (QX (kJ hr.units) (aR cN rfl T.z_len y_ (@af _ _ _ _ _ _ (ae 2) ag z_)) ah (aT _)) (cM (bT (bg (aL (AF T) T.x_are_ways hr (@af _ _ _ _ _ _ (ae 0) (@af _ _ _ _ _ _ (@ax _ _ _ _ _ _ (ae 2) ah (λ_ _=>rfl)) ag z_) z_)))))))) (@ao _ _ _ (@aB _ _ _ _ cY)) aU) (@ai _ _ _ _ _ (Mx (λ_ _ z=>z) (@ao _ _ _ (@aD _ _ _ 3 _ _ _ gI.nd rfl v6 (@az _ _ _ (aL (vE T) T.x_slid_by hr (@af _ _ _ _ _ _ (ae 0) (@af _ _ _ _ _ _ (ae 1) (@af _ _ _ _ _ _ (@ax _ _ _ _ _ _ (ae 2) ah (λ_ _=>rfl)) ag z_) z_) z_))) z_ (by first | exact .inl rfl | exact .inr rfl)))) (@ai _ _ _ _ _ (@aD _ _ _ 4 _ _ _ gI.nd rfl v6 (@az _ _ _ (aL (iF T) T.x_parted_in hr (@af _ _ _ _ _ _ (ae 0) (@af _ _ _ _ _ _ (ae 3) ag z_) z_))) z_ (by first | exact .inl rfl | exact .inr rfl)) (@ai _ _ _ _ _ (@bG _ _ _ _ _ _ _ _ (QX A1 (aL (cW T) T.x_first_side_by_side hr (@af _ _ _ _ _ _ (ae 0) (@af _ _ _ _ _ _ (ae 4) ag z_) z_)) u6 (aT _)) (@ao _ _ _ (@aB _ _ _ _ cY)) aU) (@ao _ _ _ (@aB _ _ _ _ (i4 (aL (oF T) T.x_keeps_whole_asks hr (@af _ _ _ _ _ _ (ae 0) (@af _ _ _ _ _ _ (ae 3) (@af _ _ _ _ _ _ (ae 4) (@af _ _ _ _ _ _ (@ax _ _ _ _ _ _ (ae 2) ah (λ_ _=>rfl)) ag z_) z_) z_) z_)) (mH (aL (ur T) T.x_keeps_within hr (@af _ _ _ _ _ _ (ae 0) (@af _ _ _ _ _ _ (ae 3) (@af _ _ _ _ _ _ (ae 4) (@af _ _ _ _ _ _ (@ax _ _ _ _ _ _ (ae 2) ah (λ_ _=>rfl)) ag z_) z_) z_) z_)))))))))))
  qw
theorem bN:aE mM ["ring","slid"] (au fN):=⟨rfl,rfl,rfl,y_,rfl,y_,y_⟩
theorem uu(T:Tx K mg ad fd):FnOk P w K mg base CX0 6 (ad 40) (fd 40) ["ring","slid"] (spF K 2 ib) :=
 bb (k:=5) T.x_rounded_ways.f bN iS (λcdv A outer s H E hr=>by exact(@ai _ _ _ _ _ (@aD _ _ _ 2 _ _ _ bN.nd rfl v6 (@az _ _ _ (aL (iF T) T.x_parted_in hr (@af _ _ _ _ _ _ (ae 0) (@af _ _ _ _ _ _ (ae 1) ag z_) z_))) z_ (by first | exact .inl rfl | exact .inr rfl)) (@ai _ _ _ _ _ (vQ bN.nd (j:=3) rfl v6 (sc:=(au fN)) (N:=mM) (Nt:=[ "ask" ,"part" ]) (Nf:=[]) (fi:=[]) rfl rfl rfl (DA rfl T.z_zip (@ax _ _ _ _ _ _ (ae 0) ah (λ_ _=>rfl)) (ae 1)) rfl y_ y_ y_ xp rfl y_ xp (λ_ _ _ _=>(DB rfl (l9 (i:=0) xp (show(([ "ask" ,"part" ]:List Str)++([]:List Str)).Nodup by decide +kernel) rfl (Or.inl rfl) (l9 (i:=1) xp (show(([ "ask" ,"part" ]:List Str)++([]:List Str)).Nodup by decide +kernel) rfl (Or.inl rfl) zB)))) (λ_ _ _ _=>jA) (λ_ _ _ _=>(aL (nu T) T.x_nearest_way hr (@af _ _ _ _ _ _ (ae 0) (@af _ _ _ _ _ _ (ae 1) ag z_) z_)))) (@ai _ _ _ _ _ (@aD _ _ _ 4 _ _ _ bN.nd rfl v6 (@az _ _ _ (aL (ik T) T.x_half_of_greatest hr (@af _ _ _ _ _ _ (ae 0) (@af _ _ _ _ _ _ (ae 2) ag z_) z_))) z_ (by first | exact .inl rfl | exact .inr rfl)) (@ai _ _ _ _ _ (@aD _ _ _ 5 _ _ _ bN.nd rfl v6 (oH T.g_NOUGHT rfl) z_ (by first | exact .inl rfl | exact .inr rfl)) (@ai _ _ _ _ _ (cD UY rfl (bU (aL (iG T) T.x_by_lesser_place hr (@af _ _ _ _ _ _ (ae 0) (@af _ _ _ _ _ _ (ae 2) ag z_) z_))) (eF (i:=6) bN.nd rfl v6) (@ai _ _ _ _ _ (jy 3 (ae 6) (aL (kc T) T.x_rising_way hr (@af _ _ _ _ _ _ (ae 0) (@af _ _ _ _ _ _ (ae 6) ag z_) z_))) (@ai _ _ _ _ _ (@bG _ _ _ _ _ _ _ _ (bg (aL (gO T) T.x_under hr (@af _ _ _ _ _ _ (ae 4) (@af _ _ _ _ _ _ (@az _ _ _ (aL (w7 T) T.x_plus hr (@af _ _ _ _ _ _ (ae 5) (@af _ _ _ _ _ _ (@az _ _ _ (aL (qG T) T.x_gain_of hr (@af _ _ _ _ _ _ (ae 0) (@af _ _ _ _ _ _ (ae 1) (@af _ _ _ _ _ _ (ae 6) (@af _ _ _ _ _ _ (@g6 _ _ _ _ _ (ir 3 (ae 6) (λ_ _=>rfl)) (@ax _ _ _ _ _ _ (ae 3) (ae 6) (λ_ _=>rfl))) ag z_) z_) z_) z_))) ag z_) z_))) ag z_) z_))) (@ao _ _ _ (jy 3 (ae 6) (aL (yW T) T.x_other_way hr (@af _ _ _ _ _ _ (@g6 _ _ _ _ _ (ir 3 (ae 6) (λ_ _=>rfl)) (@ax _ _ _ _ _ _ (ae 3) (ae 6) (λ_ _=>rfl))) ag z_)))) aU) (@ao _ _ _ (@aD _ _ _ 5 _ _ _ bN.nd rfl v6 (@az _ _ _ (aL (w7 T) T.x_plus hr (@af _ _ _ _ _ _ (ae 5) (@af _ _ _ _ _ _ (@az _ _ _ (aL (qG T) T.x_gain_of hr (@af _ _ _ _ _ _ (ae 0) (@af _ _ _ _ _ _ (ae 1) (@af _ _ _ _ _ _ (ae 6) (@af _ _ _ _ _ _ (@g6 _ _ _ _ _ (ir 3 (ae 6) (λ_ _=>rfl)) (@ax _ _ _ _ _ _ (ae 3) (ae 6) (λ_ _=>rfl))) ag z_) z_) z_) z_))) ag z_) z_))) z_ (by first | exact .inl rfl | exact .inr rfl)))))) (@ao _ _ _ (@aB _ _ _ _ (gB 3)))))))))
  rH
theorem nv:aE wz ["ring","sending"] (au jK):=⟨rfl,rfl,rfl,y_,rfl,y_,y_⟩
theorem iW(T:Tx K mg ad fd):FnOk P w K mg base CX0 8 (ad 41) (fd 41) ["ring","sending"] (spF K 2 dH) :=
 bb (k:=7) T.x_rounding_of.f nv jW (λcdv A outer s H E hr=>(ai (aD (i:=2) nv.nd rfl v6 (aL (w9 T) T.x_slides_for hr (af (ae 0) (af (ae 1) ag))))
  (ao (aB (JX 2 (bH 2 (af (aL (uu T) T.x_rounded_ways hr (af (ae 0) (af (az (eK 2 (aL (vE T) T.x_slid_by hr (af (ae 0) (af (ae 1) (af (ae 2) ag)))))) ag))) ag)))))))
  ud
theorem kd:aE yz ["_law_script","_law_k"] (au kY):=⟨rfl,rfl,rfl,y_,rfl,y_,y_⟩
theorem gQ(T:Tx K mg ad fd):FnOk P w K mg base CX0 1 (ad 42) (fd 42) ["_law_script","_law_k"] (spF K 2 c9) :=
 bb (k:=0) T.x__law_begun.f kd lz (λcdv A outer s H E hr=>(ai (aD (i:=2) kd.nd rfl v6 ah)
  (ai (bG (QX mx (ae 1) (aR cN rfl T.z_len y_ (af (ae 0) ag)) (aT _)) (ao (aD (i:=2) kd.nd rfl v6 (ax (ae 0) (ae 1) (λ_ _=>rfl)))) aU)
  (ao (aB (cC (af (ae 2) (af (aC dX (aC bV (aC bV (aC dX (ae 2) ah) (aC bo (aC bo ah (ae 1)) (ae 1))) ah) ah) (af (eE LW (ae 2) (aC Dr ah ah) (aT _)) ag)))))))))
  uM
theorem gz:aE Ag ["_law_state","_law_many"] (au nR):=⟨rfl,rfl,rfl,y_,rfl,y_,y_⟩
theorem a6(T:Tx K mg ad fd):FnOk P w K mg base CX0 1 (ad 43) (fd 43) ["_law_state","_law_many"] (spF K 2 aV) :=
 bb (k:=0) T.x__law_take.f gz oj (λcdv A outer s H E hr=>(ai (bG (bg (g6 (ir 0 ah (λ_ _=>rfl)) (ax (ae 0) ah (λ_ _=>rfl)))) (ai (aD (i:=2) gz.nd rfl v6 (aC dX (g6 (ir 0 ah (λ_ _=>rfl)) (ax (ae 0) ah (λ_ _=>rfl))) (ae 1)))
  (ai (jy 0 ah (aC sL (g6 (ir 0 ah (λ_ _=>rfl)) (ax (ae 0) ah (λ_ _=>rfl))) (ae 1)))
  (ai (jy 0 ah (eE FW (g6 (ir 0 ah (λ_ _=>rfl)) (ax (ae 0) ah (λ_ _=>rfl))) ah (aT _)))
  (ao (aB (gB 2)))))) aU)
  (ai (aD (i:=3) gz.nd rfl v6 ah)
  (ai (cD UY rfl (iq rfl T.z_range (aC bV ah (aC bo ah (eH xD rfl T.z_int y_ (af (eE FW (ae 1) (aC Dr ah ah) (aT _)) ag))))) (eF (i:=4) gz.nd rfl v6) (ai (jy 0 ah (aC dX (aC bV (aC bo (g6 (ir 0 ah (λ_ _=>rfl)) (ax (ae 0) ah (λ_ _=>rfl))) ah) ah) ah))
  (ao (aD (i:=3) gz.nd rfl v6 (az (aC bV (aC bo (ae 3) ah) (aC dX (aC bo (g6 (ir 0 ah (λ_ _=>rfl)) (ax (ae 0) ah (λ_ _=>rfl))) (g6 (ir 0 ah (λ_ _=>rfl)) (ax (ae 0) ah (λ_ _=>rfl)))) ah)))))))
  (ao (aB (aC dX (aC sL (ae 3) ah) (ae 1))))))))
  wR
theorem eW:aE kZ ["_law_state","_law_many"] (au gb):=⟨rfl,rfl,rfl,y_,rfl,y_,y_⟩
theorem xb(T:Tx K mg ad fd):FnOk P w K mg base CX0 2 (ad 44) (fd 44) ["_law_state","_law_many"] (spF K 2 jY) :=
 bb (k:=1) T.x__law_names.f eW lA (λcdv A outer s H E hr=>(ai (aD (i:=2) eW.nd rfl v6 i3)
  (ai (aD (i:=3) eW.nd rfl v6 (az (JD (jB (sc:=(au gb)) (N:=kZ) (Nt:=["_law_k"]) (Nf:=["_law_letters","_law_state"]) (fi:=[2,0]) rfl rfl rfl (iq rfl T.z_range (aC bV ah (cP (a6 T) T.x__law_take hr 0 0 (bH 0 (af ah ag))))) rfl y_ y_ y_ xp rfl y_ xp (λ_ _ _ _=>(iI xp (show((["_law_k"]:List Str)++(["_law_letters","_law_state"]:List Str)).Nodup by decide +kernel) rfl (Or.inl rfl))) (λ_ _ _ _=>jA) (λ_ _ _ _=>(ax (ae 1) (cP (a6 T) T.x__law_take hr 0 2 (bH 2 (af ah ag))) (λ_ _=>rfl)))))))
  (ai (aD (i:=4) eW.nd rfl v6 (az (cP (a6 T) T.x__law_take hr 0 0 (bH 0 (af (az (aR cN rfl T.z_len y_ (af (ae 3) ag))) ag)))))
  (ai (aD (i:=5) eW.nd rfl v6 (az (cP (a6 T) T.x__law_take hr 0 0 (bH 0 (af ah ag)))))
  (ao (aB (jB (sc:=(au gb)) (N:=kZ) (Nt:=["_law_k"]) (Nf:=["_law_base","_law_at","_law_letters","_law_turn"]) (fi:=[3,4,2,5]) rfl rfl rfl (iq rfl T.z_range (ae 1)) rfl y_ y_ y_ xp rfl y_ xp (λ_ _ _ _=>(iI xp (show((["_law_k"]:List Str)++(["_law_base","_law_at","_law_letters","_law_turn"]:List Str)).Nodup by decide +kernel) rfl (Or.inl rfl))) (λ_ _ _ _=>jA) (λ_ _ _ _=>(aC bV (aC bV (oS (ae 1) trivial (ae 2)) (ax (ae 3) (aC dX (aC bV (ae 4) (ae 0)) ah) (λ_ _=>rfl))) (oS (ae 1) (aC bV (ae 2) ah) trivial)))))))))))
  uN
theorem ip:aE Cz ["_law_top","_law_bottom"] (au qn):=⟨rfl,rfl,rfl,y_,rfl,y_,y_⟩
theorem fL(T:Tx K mg ad fd):FnOk P w K mg base CX0 1 (ad 45) (fd 45) ["_law_top","_law_bottom"] (spF K 2 cU) :=
 bb (k:=0) T.x__law_low.f ip qx (λcdv A outer s H E hr=>(ai (aD (i:=2) ip.nd rfl v6 (az (aR AV rfl T.z_abs y_ (af (ae 0) ag))))
  (ai (aD (i:=3) ip.nd rfl v6 (az (aR AV rfl T.z_abs y_ (af (ae 1) ag))))
  (ai (oO UY (QX (kJ hr.units) (ae 2) ah (aT _)) (ao (HU (i:=2) (j:=3) rfl ip.nd rfl rfl xp rfl rfl (aC dX (ae 3) (ae 2)) (ae 2) rfl)))
  (ai (bG (QX mx (ae 1) ah (aT _)) (ao (aD (i:=3) ip.nd rfl v6 (aC i5 ah (ae 3)))) aU)
  (ao (aB (bq (af (aC sL (ae 0) (ae 3)) (af (aC sL (ae 1) (ae 3)) ag))))))))))
  yP
theorem iX:aE wA ["_law_state","_law_least","_law_kind"] (au jL):=⟨rfl,rfl,rfl,y_,rfl,y_,y_⟩
theorem iY(T:Tx K mg ad fd):FnOk P w K mg base CX0 2 (ad 46) (fd 46) ["_law_state","_law_least","_law_kind"] (spF K 3 dJ) :=
 bb (k:=1) T.x__law_amount.f iX jZ (λcdv A outer s H E hr=>by exact(@ai _ _ _ _ _ (@aD _ _ _ 3 _ _ _ iX.nd rfl v6 (@az _ _ _ (@aC _ _ _ _ _ _ _ _ bV ah (cP (a6 T) T.x__law_take hr 0 0 (bH 0 (@af _ _ _ _ _ _ (@ax _ _ _ _ _ _ (@cC _ _ _ _ _ (@af _ _ _ _ _ _ ah (@af _ _ _ _ _ _ ah (@af _ _ _ _ _ _ ah (@af _ _ _ _ _ _ ah (@af _ _ _ _ _ _ ah ag z_) z_) z_) z_) z_)) (ae 2) (λ_ _=>rfl)) ag z_))))) z_ (by first | exact .inl rfl | exact .inr rfl)) (@ai _ _ _ _ _ (@aD _ _ _ 4 _ _ _ iX.nd rfl v6 (@az _ _ _ (@aC _ _ _ _ _ _ _ _ bV (ae 1) (cP (a6 T) T.x__law_take hr 0 0 (bH 0 (@af _ _ _ _ _ _ (@ax _ _ _ _ _ _ (@cC _ _ _ _ _ (@af _ _ _ _ _ _ ah (@af _ _ _ _ _ _ ah (@af _ _ _ _ _ _ ah (@af _ _ _ _ _ _ ah (@af _ _ _ _ _ _ (@aC _ _ _ _ _ _ _ _ Dr ah ah) ag z_) z_) z_) z_) z_)) (ae 2) (λ_ _=>rfl)) ag z_))))) z_ (by first | exact .inl rfl | exact .inr rfl)) (@ao _ _ _ (@aB _ _ _ _ (aL (fL T) T.x__law_low hr (@af _ _ _ _ _ _ (ae 4) (@af _ _ _ _ _ _ (ae 3) ag z_) z_)))))))
  ue
theorem dg:aE yA ["_law_state","_law_ties_here","_law_kind"] (au k6):=⟨rfl,rfl,rfl,y_,rfl,y_,y_⟩
theorem xc(T:Tx K mg ad fd):FnOk P w K mg base CX0 3 (ad 47) (fd 47) ["_law_state","_law_ties_here","_law_kind"] (spF K 3 j2) :=
 bb (k:=2) T.x__law_rooms.f dg lD (λcdv A outer s H E hr=>(ai (aD (i:=3) dg.nd rfl v6 (az (cP (a6 T) T.x__law_take hr 0 0 (bH 0 (af ah ag)))))
  (ai (aD (i:=4) dg.nd rfl v6 (az (cP (iY T) T.x__law_amount hr 0 0 (bH 0 (af ah (af (ae 2) ag))))))
  (ai (bG (QX (fZ hr.units) (ae 3) ah (aT _)) (ao (aD (i:=4) dg.nd rfl v6 (bq (af ah (af ah ag))))) aU)
  (ai (aD (i:=5) dg.nd rfl v6 (cC (af (ae 4) ag)))
  (ai (oO UY (QX mx (g6 (Ju 5 rfl T.z_len) (aR cN rfl T.z_len PySem.boot_len (af (ae 5) ag))) (ae 1) (aT _)) (ai (aD (i:=6) dg.nd rfl v6 (az (cP (iY T) T.x__law_amount hr 0 0 (bH 0 (af ah (af (ae 2) ag))))))
  (ao (jt (gY 5 (ax (cC (af (ae 4) (af (ae 6) ag))) (eH xD rfl T.z_int y_ (af (eE (fZ hr.units) (ae 3) ah (aT _)) ag)) (λ_ _=>rfl)))))))
  (ao (aB (gB 5)))))))))
  uO
theorem lX:aE Ah ["_law_state","_law_shape","_law_places","_law_k"] (au nS):=⟨rfl,rfl,rfl,y_,rfl,y_,y_⟩
theorem yY(T:Tx K mg ad fd):FnOk P w K mg base CX0 2 (ad 48) (fd 48) ["_law_state","_law_shape","_law_places","_law_k"] (spF K 4 lE) :=
 bb (k:=1) T.x__law_ends.f lX om (λcdv A outer s H E hr=>(ai (aD (i:=4) lX.nd rfl v6 (az (cP (a6 T) T.x__law_take hr 0 0 (bH 0 (af (ae 2) ag)))))
  (ai (aD (i:=5) lX.nd rfl v6 (aC dX (aC bV (aC bV (ae 4) ah) (cP (a6 T) T.x__law_take hr 0 0 (bH 0 (af (aC i5 (ae 2) ah) ag)))) (ae 2)))
  (ai (bG (QX (fZ hr.units) (ae 1) ah (aT _)) (ao (aB (bq (af (aC dX (ae 3) (ae 2)) (af (aC dX (aC bV (ae 3) (aC sL (ae 2) ah)) (ae 2)) ag))))) aU)
  (ai (bG (QX (fZ hr.units) (ae 1) ah (aT _)) (ao (aB (bq (af (az (aC bo (aC dX (ae 3) ah) (aC i5 (ae 2) ah))) (af (az (aC bo (aC i5 ah (aC dX (ae 3) ah)) (aC i5 (ae 2) ah))) ag))))) aU)
  (ai (bG (QX (fZ hr.units) (ae 1) ah (aT _)) (ao (aB (bq (af ah (af (az (aC bV ah (aC dX (ae 5) (aC i5 (ae 2) ah)))) ag))))) aU)
  (ao (aB (bq (af (ae 4) (af (ae 5) ag)))))))))))
  wU
theorem bh:aE Ai ["_law_script","_law_at","_law_most","_law_count"] (au nT):=⟨rfl,rfl,rfl,y_,rfl,y_,y_⟩
theorem yZ(T:Tx K mg ad fd):FnOk P w K mg base CX0 4 (ad 49) (fd 49) ["_law_script","_law_at","_law_most","_law_count"] (spF K 4 lF) :=
 bb (k:=3) T.x__law_ring.f bh oo (λcdv A outer s H E hr=>by exact(@ai _ _ _ _ _ (@aD _ _ _ 4 _ _ _ bh.nd rfl v6 (aL (gQ T) T.x__law_begun hr (@af _ _ _ _ _ _ (ae 0) (@af _ _ _ _ _ _ (ae 1) ag z_) z_)) z_ (by first | exact .inl rfl | exact .inr rfl)) (@ai _ _ _ _ _ (@aD _ _ _ 5 _ _ _ bh.nd rfl v6 (@az _ _ _ (@aC _ _ _ _ _ _ _ _ bV ah (cP (a6 T) T.x__law_take hr 0 4 (bH 4 (@af _ _ _ _ _ _ (@aC _ _ _ _ _ _ _ _ i5 (ae 2) ah) ag z_))))) z_ (by first | exact .inl rfl | exact .inr rfl)) (@ai _ _ _ _ _ (@aD _ _ _ 6 _ _ _ bh.nd rfl v6 (@az _ _ _ (cP (a6 T) T.x__law_take hr 0 4 (bH 4 (@af _ _ _ _ _ _ (@az _ _ _ (@aC _ _ _ _ _ _ _ _ bV (ae 3) ah)) ag z_)))) z_ (by first | exact .inl rfl | exact .inr rfl)) (@ai _ _ _ _ _ (@aD _ _ _ 7 _ _ _ bh.nd rfl v6 (@az _ _ _ (@cC _ _ _ _ _ (@af _ _ _ _ _ _ (@az _ _ _ (cP (a6 T) T.x__law_take hr 0 4 (bH 4 (@af _ _ _ _ _ _ ah ag z_)))) (@af _ _ _ _ _ _ (@az _ _ _ (cP (a6 T) T.x__law_take hr 0 4 (bH 4 (@af _ _ _ _ _ _ ah ag z_)))) ag z_) z_))) z_ (by first | exact .inl rfl | exact .inr rfl)) (@ai _ _ _ _ _ (@aD _ _ _ 8 _ _ _ bh.nd rfl v6 (@az _ _ _ (cP (a6 T) T.x__law_take hr 0 4 (bH 4 (@af _ _ _ _ _ _ ah ag z_)))) z_ (by first | exact .inl rfl | exact .inr rfl)) (@ai _ _ _ _ _ (@aD _ _ _ 9 _ _ _ bh.nd rfl v6 (@az _ _ _ (cP (xb T) T.x__law_names hr 0 4 (bH 4 (@af _ _ _ _ _ _ (ae 6) ag z_)))) z_ (by first | exact .inl rfl | exact .inr rfl)) (@ai _ _ _ _ _ (@aD _ _ _ 10 _ _ _ bh.nd rfl v6 (@az _ _ _ (aL (xc T) T.x__law_rooms hr (@af _ _ _ _ _ _ (aL (gQ T) T.x__law_begun hr (@af _ _ _ _ _ _ (ae 0) (@af _ _ _ _ _ _ (@az _ _ _ (@aC _ _ _ _ _ _ _ _ bV (ae 1) ah)) ag z_) z_)) (@af _ _ _ _ _ _ (ae 5) (@af _ _ _ _ _ _ (@ax _ _ _ _ _ _ (ae 7) ah (λ_ _=>rfl)) ag z_) z_) z_))) z_ (by first | exact .inl rfl | exact .inr rfl)) (@ai _ _ _ _ _ (@aD _ _ _ 4 _ _ _ bh.nd rfl v6 (aL (gQ T) T.x__law_begun hr (@af _ _ _ _ _ _ (ae 0) (@af _ _ _ _ _ _ (@az _ _ _ (@aC _ _ _ _ _ _ _ _ bV (ae 1) ah)) ag z_) z_)) z_ (by first | exact .inl rfl | exact .inr rfl)) (@ai _ _ _ _ _ (@aD _ _ _ 11 _ _ _ bh.nd rfl v6 (@cC _ _ _ _ _ ag) z_ (by first | exact .inl rfl | exact .inr rfl)) (@ai _ _ _ _ _ (cD UY rfl (iq rfl T.z_range (ae 6)) (eF (i:=12) bh.nd rfl v6) (@ai _ _ _ _ _ (pV (gJ rfl (aO (i:=13) bh.nd rfl v6 (aO (i:=14) bh.nd rfl v6 dj))) (cP (yY T) T.x__law_ends hr 0 4 (bH 4 (@af _ _ _ _ _ _ (ae 8) (@af _ _ _ _ _ _ (ae 5) (@af _ _ _ _ _ _ (ae 12) ag z_) z_) z_)))) (@ao _ _ _ (jt (gY 11 (@bq _ _ _ _ _ _ (@af _ _ _ _ _ _ (@ax _ _ _ _ _ _ (ae 9) (ae 12) (λ_ _=>rfl)) (@af _ _ _ _ _ _ (ae 13) (@af _ _ _ _ _ _ (ae 14) (@af _ _ _ _ _ _ (@az _ _ _ (cP (iY T) T.x__law_amount hr 0 4 (bH 4 (@af _ _ _ _ _ _ ah (@af _ _ _ _ _ _ (@ax _ _ _ _ _ _ (ae 7) ah (λ_ _=>rfl)) ag z_) z_)))) ag z_) z_) z_) z_))))))) (@ao _ _ _ (@aB _ _ _ _ (@bq _ _ _ _ _ _ (@af _ _ _ _ _ _ (ae 10) (@af _ _ _ _ _ _ (ae 11) ag z_) z_)))))))))))))))
  wV
theorem bR:aE yB ["_law_state","_law_ring_here"] (au k7):=⟨rfl,rfl,rfl,y_,rfl,y_,y_⟩
theorem xf(T:Tx K mg ad fd):FnOk P w K mg base CX0 2 (ad 50) (fd 50) ["_law_state","_law_ring_here"] (spF K 2 j4) :=
 bb (k:=1) T.x__law_parts.f bR lG (λcdv A outer s H E hr=>(ai (aD (i:=2) bR.nd rfl v6 (cC ag))
  (ai (cD UY rfl (bU (ax (ae 1) ah (λ_ _=>rfl))) (gJ rfl (aO (i:=3) bR.nd rfl v6 (aO (i:=4) bR.nd rfl v6 (aO (i:=5) bR.nd rfl v6 (aO (i:=6) bR.nd rfl v6 dj))))) (ai (aD (i:=7) bR.nd rfl v6 (az (cP (a6 T) T.x__law_take hr 0 0 (bH 0 (af ah ag)))))
  (ai (aD (i:=8) bR.nd rfl v6 (az (cP (a6 T) T.x__law_take hr 0 0 (bH 0 (af ah ag)))))
  (ao (jt (gY 2 (ax (cC (af (bq (af ah (af ah ag))) (af (ae 6) (af (az (aL (fL T) T.x__law_low hr (af (az (aC bo (ax (ae 6) ah (λ_ _=>rfl)) (ae 8))) (af (az (aC bo (ax (ae 6) ah (λ_ _=>rfl)) ah)) ag)))) ag)))) (aR (AW rfl) rfl T.z_min y_ (af (ae 7) (af ah ag))) (λ_ _=>rfl))))))))
  (ao (aB (gB 2))))))
  uP
theorem y1:aE Aj ["_law_one","_law_other"] (au nU):=⟨rfl,rfl,rfl,y_,rfl,y_,y_⟩
theorem rg(T:Tx K mg ad fd):FnOk P w K mg base CX0 2 (ad 51) (fd 51) ["_law_one","_law_other"] (spF K 2 gh) :=
 bb (k:=1) T.x__law_plus.f y1 ou (λcdv A outer s H E hr=>(ao (aB (aL (fL T) T.x__law_low hr (af (az (aC bV (aC bo (ax (ae 0) ah (λ_ _=>rfl)) (ax (ae 1) ah (λ_ _=>rfl))) (aC bo (ax (ae 1) ah (λ_ _=>rfl)) (ax (ae 0) ah (λ_ _=>rfl))))) (af (az (aC bo (ax (ae 0) ah (λ_ _=>rfl)) (ax (ae 1) ah (λ_ _=>rfl)))) ag))))))
  wW
theorem xg:aE yC ["_law_one","_law_other"] (au k8):=⟨rfl,rfl,rfl,y_,rfl,y_,y_⟩
theorem gR(T:Tx K mg ad fd):FnOk P w K mg base CX0 2 (ad 52) (fd 52) ["_law_one","_law_other"] (spF K 2 de) :=
 bb (k:=1) T.x__law_minus.f xg lH (λcdv A outer s H E hr=>(ao (aB (aL (fL T) T.x__law_low hr (af (aC i5 (aC bo (ax (ae 0) ah (λ_ _=>rfl)) (ax (ae 1) ah (λ_ _=>rfl))) (aC bo (ax (ae 1) ah (λ_ _=>rfl)) (ax (ae 0) ah (λ_ _=>rfl)))) (af (az (aC bo (ax (ae 0) ah (λ_ _=>rfl)) (ax (ae 1) ah (λ_ _=>rfl)))) ag))))))
  uQ
theorem bS:aE Ak ["_law_sending","_law_slide"] (au nV):=⟨rfl,rfl,rfl,y_,rfl,y_,y_⟩
theorem y3(T:Tx K mg ad fd):FnOk P w K mg base CX0 3 (ad 53) (fd 53) ["_law_sending","_law_slide"] (spF K 2 lI) :=
 bb (k:=2) T.x__law_slid.f bS oy (λcdv A outer s H E hr=>(ai (pV (gJ rfl (aO (i:=2) bS.nd rfl v6 (aO (i:=3) bS.nd rfl v6 (aO (i:=4) bS.nd rfl v6 (aO (i:=5) bS.nd rfl v6 (aO (i:=6) bS.nd rfl v6 dj)))))) (ae 1))
  (ai (aD (i:=7) bS.nd rfl v6 (eH vM rfl T.z_list y_ (af (ae 0) ag)))
  (ai (cD UY rfl (bU (cC (af (bq (af (ae 2) (af (ae 3) ag))) (af (bq (af (ae 4) (af (ae 5) ag))) ag)))) (gJ rfl (aO (i:=8) bS.nd rfl v6 (aO (i:=9) bS.nd rfl v6 dj))) (ao (bG (QX (fZ hr.units) (ae 9) i3 (aT _)) (ao (jy 7 (ae 8) (aL (rg T) T.x__law_plus hr (af (g6 (ir 7 (ae 8) (λ_ _=>rfl)) (ax (ae 7) (ae 8) (λ_ _=>rfl))) (af (ae 6) ag))))) (ao (jy 7 (ae 8) (aL (gR T) T.x__law_minus hr (af (g6 (ir 7 (ae 8) (λ_ _=>rfl)) (ax (ae 7) (ae 8) (λ_ _=>rfl))) (af (ae 6) ag))))))))
  (ao (aB (gB 7)))))))
  wX
theorem cf:aE Al ["_law_ring_here","_law_k","_law_way"] (au nW):=⟨rfl,rfl,rfl,y_,rfl,y_,y_⟩
theorem rh(T:Tx K mg ad fd):FnOk P w K mg base CX0 1 (ad 54) (fd 54) ["_law_ring_here","_law_k","_law_way"] (spF K 3 iC) :=
 bb (k:=0) T.x__law_ties.f cf oz (λcdv A outer s H E hr=>(ai (pV (gJ rfl (aO (i:=3) cf.nd rfl v6 (aO (i:=4) cf.nd rfl v6 (aO (i:=5) cf.nd rfl v6 (aO (i:=6) cf.nd rfl v6 dj))))) (ax (ax (ae 0) ah (λ_ _=>rfl)) (ae 1) (λ_ _=>rfl)))
  (ai (bG (QX (fZ hr.units) (ae 2) i3 (aT _)) (ao (HU (i:=4) (j:=5) rfl cf.nd rfl rfl xp rfl rfl (ae 5) (ae 4) rfl)) aU)
  (ai (aD (i:=7) cf.nd rfl v6 (cC ag))
  (ai (oO UY (QX (kJ hr.units) (ae 4) (ae 5) (aT _)) (ai (jt (gY 7 (ae 4)))
  (ao (aD (i:=4) cf.nd rfl v6 (aC dX (aC bV (ae 4) ah) (aR cN rfl T.z_len y_ (af (ax (ae 0) ah (λ_ _=>rfl)) ag)))))))
  (ao (aB (gB 7))))))))
  wY
theorem xh:aE yD ["_law_one","_law_other"] (au k9):=⟨rfl,rfl,rfl,y_,rfl,y_,y_⟩
theorem gS(T:Tx K mg ad fd):FnOk P w K mg base CX0 1 (ad 55) (fd 55) ["_law_one","_law_other"] (spF K 2 df) :=
 bb (k:=0) T.x__law_under.f xh lJ (λcdv A outer s H E hr=>(ao (aB (eE mx (aC bo (ax (ae 0) ah (λ_ _=>rfl)) (ax (ae 1) ah (λ_ _=>rfl))) (aC bo (ax (ae 1) ah (λ_ _=>rfl)) (ax (ae 0) ah (λ_ _=>rfl))) (aT _)))))
  uS
theorem kx:aE tS ["_law_thing"] (au hG):=⟨rfl,rfl,rfl,y_,rfl,y_,y_⟩
theorem rL(T:Tx K mg ad fd):FnOk P w K mg base CX0 2 (ad 56) (fd 56) ["_law_thing"] (spF K 1 gG) :=
 bb (k:=1) T.x__law_is_ratio.f kx ic (λcdv A outer s H E hr=>(ai (bG (QV.pb (dh (bT (bg (dY i7 rfl T.z_isinstance rfl T.z_tuple y_ (ae 0)))) (cM (QX (kJ hr.units) (aR cN rfl T.z_len y_ (af (ae 0) ag)) ah (aT _))))) (ao (aB cY)) aU)
  (ai (cD UY rfl (bU (ae 0)) (eF (i:=1) kx.nd rfl v6) (ao (bG (QV.pb (dh (bT (bg (dY zw rfl T.z_isinstance rfl T.z_int y_ (ae 1)))) (cM (bg (dY vR rfl T.z_isinstance rfl T.z_bool y_ (ae 1)))))) (ao (aB cY)) aU)))
  (ai (bG (QX mx (ax (ae 0) ah (λ_ _=>rfl)) ah (aT _)) (ao (aB cY)) aU)
  (ao (aB (eE (fZ hr.units) (ae 0) (aL (fL T) T.x__law_low hr (af (ax (ae 0) ah (λ_ _=>rfl)) (af (ax (ae 0) ah (λ_ _=>rfl)) ag))) (aT _))))))))
  qy
theorem y4:aE Am ["_law_ring_here","_law_sending","_law_k","_law_way"] (au nX):=⟨rfl,rfl,rfl,y_,rfl,y_,y_⟩
theorem lY(T:Tx K mg ad fd):FnOk P w K mg base CX0 3 (ad 57) (fd 57) ["_law_ring_here","_law_sending","_law_k","_law_way"] (spF K 4 gi) :=
 bb (k:=2) T.x__law_gone.f y4 oA (λcdv A outer s H E hr=>(ai (bG (QX (fZ hr.units) (ae 3) i3 (aT _)) (ao (aB (ax (ae 1) (ae 2) (λ_ _=>rfl)))) aU)
  (ao (aB (aL (gR T) T.x__law_minus hr (af (ax (ax (ax (ae 0) ah (λ_ _=>rfl)) (ae 2) (λ_ _=>rfl)) ah (λ_ _=>rfl)) (af (ax (ae 1) (ae 2) (λ_ _=>rfl)) ag)))))))
  wZ
theorem aX:aE lg ["_law_ring_here","_law_sending","_law_thing"] (au eN):=⟨rfl,rfl,rfl,y_,rfl,y_,y_⟩
theorem rM(T:Tx K mg ad fd):FnOk P w K mg base CX0 4 (ad 58) (fd 58) ["_law_ring_here","_law_sending","_law_thing"] (spF K 3 gH) :=
 bb (k:=3) T.x__law_is_slide.f aX ie (λcdv A outer s H E hr=>by exact(@ai _ _ _ _ _ (@bG _ _ _ _ _ _ _ _ (QV.pb (dh (bT (bg (dY i7 rfl T.z_isinstance rfl T.z_tuple y_ (ae 2)))) (cM (QX (kJ hr.units) (aR cN rfl T.z_len y_ (@af _ _ _ _ _ _ (ae 2) ag z_)) ah (aT _))))) (@ao _ _ _ (@aB _ _ _ _ cY)) aU) (@ai _ _ _ _ _ (pV (gJ rfl (aO (i:=3) aX.nd rfl v6 (aO (i:=4) aX.nd rfl v6 (aO (i:=5) aX.nd rfl v6 (aO (i:=6) aX.nd rfl v6 (aO (i:=7) aX.nd rfl v6 dj)))))) (ae 2)) (@ai _ _ _ _ _ (cD UY rfl (bU (@cC _ _ _ _ _ (@af _ _ _ _ _ _ (@bq _ _ _ _ _ _ (@af _ _ _ _ _ _ (ae 3) (@af _ _ _ _ _ _ (ae 4) ag z_) z_)) (@af _ _ _ _ _ _ (@bq _ _ _ _ _ _ (@af _ _ _ _ _ _ (ae 5) (@af _ _ _ _ _ _ (ae 6) ag z_) z_)) ag z_) z_))) (gJ rfl (aO (i:=8) aX.nd rfl v6 (aO (i:=9) aX.nd rfl v6 dj))) (@ai _ _ _ _ _ (@bG _ _ _ _ _ _ _ _ (QV.pb (dh (bT (bg (dY zw rfl T.z_isinstance rfl T.z_int y_ (ae 8)))) (dh (bg (dY vR rfl T.z_isinstance rfl T.z_bool y_ (ae 8))) (cM (bT (F8 Mf Me ah (ae 8) (aR cN rfl T.z_len y_ (@af _ _ _ _ _ _ (@ax _ _ _ _ _ _ (ae 0) ah (λ_ _=>rfl)) ag z_)))))))) (@ao _ _ _ (@aB _ _ _ _ cY)) aU) (@ao _ _ _ (@bG _ _ _ _ _ _ _ _ (QV.pb (dh (bT (bg (dY zx rfl T.z_isinstance rfl T.z_str y_ (ae 9)))) (cM (QX rP (ae 9) (@bq _ _ _ _ _ _ (@af _ _ _ _ _ _ i3 (@af _ _ _ _ _ _ i3 ag z_) z_)) rfl)))) (@ao _ _ _ (@aB _ _ _ _ cY)) aU)))) (@ai _ _ _ _ _ (@bG _ _ _ _ _ _ _ _ (QV.pb (dh (QX (fZ hr.units) (ae 3) (ae 5) (aT _)) (dh (bT (bg (aL (rL T) T.x__law_is_ratio hr (@af _ _ _ _ _ _ (ae 7) ag z_)))) (cM (QX NU (@ax _ _ _ _ _ _ (ae 7) ah (λ_ _=>rfl)) ah (aT _)))))) (@ao _ _ _ (@aB _ _ _ _ cY)) aU) (@ai _ _ _ _ _ (cD UY rfl (bU (@cC _ _ _ _ _ (@af _ _ _ _ _ _ (@bq _ _ _ _ _ _ (@af _ _ _ _ _ _ (ae 3) (@af _ _ _ _ _ _ (ae 4) ag z_) z_)) (@af _ _ _ _ _ _ (@bq _ _ _ _ _ _ (@af _ _ _ _ _ _ (ae 5) (@af _ _ _ _ _ _ (ae 6) ag z_) z_)) ag z_) z_))) (gJ rfl (aO (i:=8) aX.nd rfl v6 (aO (i:=9) aX.nd rfl v6 dj))) (@ai _ _ _ _ _ (@aD _ _ _ 10 _ _ _ aX.nd rfl v6 (@az _ _ _ (aL (gR T) T.x__law_minus hr (@af _ _ _ _ _ _ (@ax _ _ _ _ _ _ (@ax _ _ _ _ _ _ (@ax _ _ _ _ _ _ (ae 0) ah (λ_ _=>rfl)) (ae 8) (λ_ _=>rfl)) ah (λ_ _=>rfl)) (@af _ _ _ _ _ _ (@az _ _ _ (aL (lY T) T.x__law_gone hr (@af _ _ _ _ _ _ (ae 0) (@af _ _ _ _ _ _ (ae 1) (@af _ _ _ _ _ _ (ae 8) (@af _ _ _ _ _ _ (ae 9) ag z_) z_) z_) z_))) ag z_) z_))) z_ (by first | exact .inl rfl | exact .inr rfl)) (@ao _ _ _ (@bG _ _ _ _ _ _ _ _ (bg (aL (gS T) T.x__law_under hr (@af _ _ _ _ _ _ (ae 10) (@af _ _ _ _ _ _ (ae 7) ag z_) z_))) (@ao _ _ _ (@aB _ _ _ _ cY)) aU)))) (@ai _ _ _ _ _ (@aD _ _ _ 11 _ _ _ aX.nd rfl v6 (@az _ _ _ (aL (rh T) T.x__law_ties hr (@af _ _ _ _ _ _ (ae 0) (@af _ _ _ _ _ _ (ae 5) (@af _ _ _ _ _ _ (ae 6) ag z_) z_) z_))) z_ (by first | exact .inl rfl | exact .inr rfl)) (@ao _ _ _ (@aB _ _ _ _ (eE (fZ hr.units) (jB (sc:=(au eN)) (N:=lg) (Nt:=[ "_law_tie" ]) (Nf:=[ "_law_ties_here" ]) (fi:=[11]) rfl rfl rfl (bU (aL (rh T) T.x__law_ties hr (@af _ _ _ _ _ _ (ae 0) (@af _ _ _ _ _ _ (ae 3) (@af _ _ _ _ _ _ (ae 4) ag z_) z_) z_))) rfl y_ y_ y_ xp rfl y_ xp (λ_ _ _ _=>(iI xp (show(([ "_law_tie" ]:List Str)++([ "_law_ties_here" ]:List Str)).Nodup by decide +kernel) rfl (Or.inl rfl))) (λ_ _ _ _=>(vP (QX F4 (ae 0) (ae 1) rfl))) (λ_ _ _ _=>(ae 0))) (@cC _ _ _ _ _ ag) (aT _)))))))))))
  qz
theorem fT:aE wB ["_law_ring_here","_law_sending","_law_thing"] (au jM):=⟨rfl,rfl,rfl,y_,rfl,y_,y_⟩
theorem uX(T:Tx K mg ad fd):FnOk P w K mg base CX0 5 (ad 59) (fd 59) ["_law_ring_here","_law_sending","_law_thing"] (spF K 3 iU) :=
 bb (k:=4) T.x__law_behind.f fT j7 (λcdv A outer s H E hr=>(ai (bG (bT (bg (dY oR rfl T.z_isinstance rfl T.z_list y_ (ae 2)))) (ao (aB u6)) aU)
  (ai (aD (i:=3) fT.nd rfl v6 (eH vM rfl T.z_list y_ (af (ae 1) ag)))
  (ai (cD UY rfl (bU (ae 2)) (eF (i:=4) fT.nd rfl v6) (ai (bG (bT (bg (aL (rM T) T.x__law_is_slide hr (af (ae 0) (af (ae 3) (af (ae 4) ag)))))) (ao (aB u6)) aU)
  (ao (aD (i:=3) fT.nd rfl v6 (aL (y3 T) T.x__law_slid hr (af (ae 3) (af (ae 4) ag)))))))
  (ao (aB (gB 3)))))))
  uf
theorem fU:aE wD ["_law_ring_here","_law_sending"] (au jN):=⟨rfl,rfl,rfl,y_,rfl,y_,y_⟩
theorem ny(T:Tx K mg ad fd):FnOk P w K mg base CX0 2 (ad 60) (fd 60) ["_law_ring_here","_law_sending"] (spF K 2 fR) :=
 bb (k:=1) T.x__law_parted.f fU j8 (λcdv A outer s H E hr=>(ai (aD (i:=2) fU.nd rfl v6 (cC ag))
  (ai (cD UY rfl (l8 rfl T.z_enumerate (ae 1)) (gJ rfl (aO (i:=3) fU.nd rfl v6 (aO (i:=4) fU.nd rfl v6 dj))) (ao (bG (QV.pb (nE (QX FW (ax (ae 4) ah (λ_ _=>rfl)) ah (aT _)) (l6 (bg (aL (gS T) T.x__law_under hr (af (ae 4) (af (ax (ax (ax (ae 0) ah (λ_ _=>rfl)) (ae 3) (λ_ _=>rfl)) ah (λ_ _=>rfl)) ag))))))) (ao (jt (gY 2 (ae 3)))) aU)))
  (ao (aB (gB 2))))))
  ug
theorem eX:aE qV ["_law_ring_here","_law_k","_law_l"] (au iz):=⟨rfl,rfl,rfl,y_,rfl,y_,y_⟩
theorem xi(T:Tx K mg ad fd):FnOk P w K mg base CX0 1 (ad 61) (fd 61) ["_law_ring_here","_law_k","_law_l"] (spF K 3 j9) :=
 bb (k:=0) T.x__law_cross.f eX lM (λcdv A outer s H E hr=>(ai (aD (i:=3) eX.nd rfl v6 (az (cC ag)))
  (ai (cD UY rfl (iq rfl T.z_range (aR cN rfl T.z_len y_ (af (ax (ae 0) ah (λ_ _=>rfl)) ag))) (eF (i:=4) eX.nd rfl v6) (ai (vQ eX.nd (j:=5) rfl v6 (sc:=(au iz)) (N:=qV) (Nt:=["_law_one"]) (Nf:=["_law_place","_law_ring_here"]) (fi:=[4,0]) rfl rfl rfl (bU (bq (af (ae 1) (af (ae 2) ag)))) rfl y_ y_ y_ xp rfl y_ xp (λ_ _ _ _=>(iI xp (show((["_law_one"]:List Str)++(["_law_place","_law_ring_here"]:List Str)).Nodup by decide +kernel) rfl (Or.inl rfl))) (λ_ _ _ _=>(vP (QX F4 (ae 1) (oS (ax (ax (ae 2) ah (λ_ _=>rfl)) (ae 0) (λ_ _=>rfl)) ah ah) rfl))) (λ_ _ _ _=>(ae 0)))
  (ai (bG (QX (fZ hr.units) (aR cN rfl T.z_len y_ (af (ae 5) ag)) ah (aT _)) (ao (aB cY)) aU)
  (ao (aD (i:=3) eX.nd rfl v6 (az (aC bV (ae 3) (ae 5))))))))
  (ao (aB (i4 (eE (fZ hr.units) (ax (ae 3) ah (λ_ _=>rfl)) (ax (ae 3) ah (λ_ _=>rfl)) (aT _)) (mH (eE (fZ hr.units) (ax (ae 3) ah (λ_ _=>rfl)) (ax (ae 3) ah (λ_ _=>rfl)) (aT _)))))))))
  uT
theorem aA:aE nY ["_law_ring_here","_law_behind_here","_law_ways","_law_parted_here"] (au dQ):=⟨rfl,rfl,rfl,y_,rfl,y_,y_⟩
theorem mE(T:Tx K mg ad fd):FnOk P w K mg base CX0 4 (ad 62) (fd 62) ["_law_ring_here","_law_behind_here","_law_ways","_law_parted_here"] (spF K 4 dC) :=
 bb (k:=3) T.x__law_crossed_sums.f aA dU (λcdv A outer s H E hr=>by exact(@ai _ _ _ _ _ (@aD _ _ _ 4 _ _ _ aA.nd rfl v6 (@bq _ _ _ _ _ _ (@af _ _ _ _ _ _ ah (@af _ _ _ _ _ _ ah ag z_) z_)) z_ (by first | exact .inl rfl | exact .inr rfl)) (@ai _ _ _ _ _ (@aD _ _ _ 5 _ _ _ aA.nd rfl v6 (@cC _ _ _ _ _ ag) z_ (by first | exact .inl rfl | exact .inr rfl)) (@ai _ _ _ _ _ (cD UY rfl (bU (ae 3)) (eF (i:=6) aA.nd rfl v6) (@ai _ _ _ _ _ (cD UY rfl (bU (ae 3)) (eF (i:=7) aA.nd rfl v6) (@ao _ _ _ (@bG _ _ _ _ _ _ _ _ (QV.pb (nE (QX mx (ae 6) (ae 7) (aT _)) (l6 (bT (bg (aL (xi T) T.x__law_cross hr (@af _ _ _ _ _ _ (ae 0) (@af _ _ _ _ _ _ (ae 6) (@af _ _ _ _ _ _ (ae 7) ag z_) z_) z_))))))) (@ao _ _ _ (@aB _ _ _ _ cY)) aU))) (@ai _ _ _ _ _ (pV (gJ rfl (aO (i:=8) aA.nd rfl v6 (aO (i:=9) aA.nd rfl v6 (aO (i:=10) aA.nd rfl v6 (aO (i:=11) aA.nd rfl v6 dj))))) (@ax _ _ _ _ _ _ (@ax _ _ _ _ _ _ (ae 0) ah (λ_ _=>rfl)) (ae 6) (λ_ _=>rfl))) (@ai _ _ _ _ _ (@bG _ _ _ _ _ _ _ _ (bg (aL (gS T) T.x__law_under hr (@af _ _ _ _ _ _ (ae 4) (@af _ _ _ _ _ _ (ae 11) ag z_) z_))) (@ao _ _ _ (@aD _ _ _ 4 _ _ _ aA.nd rfl v6 (ae 11) z_ (by first | exact .inl rfl | exact .inr rfl))) aU) (@ai _ _ _ _ _ (@aD _ _ _ 12 _ _ _ aA.nd rfl v6 (@ax _ _ _ _ _ _ (@cC _ _ _ _ _ (@af _ _ _ _ _ _ i3 (@af _ _ _ _ _ _ i3 ag z_) z_)) (eH xD rfl T.z_int y_ (@af _ _ _ _ _ _ (eE mx (ae 9) (ae 10) (aT _)) ag z_)) (λ_ _=>rfl)) z_ (by first | exact .inl rfl | exact .inr rfl)) (@ai _ _ _ _ _ (@aD _ _ _ 13 _ _ _ aA.nd rfl v6 (@az _ _ _ (aL (lY T) T.x__law_gone hr (@af _ _ _ _ _ _ (ae 0) (@af _ _ _ _ _ _ (ae 1) (@af _ _ _ _ _ _ (ae 6) (@af _ _ _ _ _ _ (ae 12) ag z_) z_) z_) z_))) z_ (by first | exact .inl rfl | exact .inr rfl)) (@ai _ _ _ _ _ (@aD _ _ _ 14 _ _ _ aA.nd rfl v6 (@ax _ _ _ _ _ _ (@cC _ _ _ _ _ (@af _ _ _ _ _ _ (@bq _ _ _ _ _ _ (@af _ _ _ _ _ _ ah (@af _ _ _ _ _ _ ah ag z_) z_)) (@af _ _ _ _ _ _ (ae 11) ag z_) z_)) (eH xD rfl T.z_int y_ (@af _ _ _ _ _ _ (eE (fZ hr.units) (@ax _ _ _ _ _ _ (ae 2) (ae 6) (λ_ _=>rfl)) (ae 12) (aT _)) ag z_)) (λ_ _=>rfl)) z_ (by first | exact .inl rfl | exact .inr rfl)) (@ai _ _ _ _ _ (@aD _ _ _ 15 _ _ _ aA.nd rfl v6 (@az _ _ _ (aL (gR T) T.x__law_minus hr (@af _ _ _ _ _ _ (ae 14) (@af _ _ _ _ _ _ (ae 13) ag z_) z_))) z_ (by first | exact .inl rfl | exact .inr rfl)) (@ao _ _ _ (jt (gY 5 (@bq _ _ _ _ _ _ (@af _ _ _ _ _ _ (@az _ _ _ (aR (AW rfl) rfl T.z_min y_ (@af _ _ _ _ _ _ (ae 9) (@af _ _ _ _ _ _ (ae 10) ag z_) z_))) (@af _ _ _ _ _ _ (ae 15) ag z_) z_))))))))))))) (@ai _ _ _ _ _ (@aD _ _ _ 16 _ _ _ aA.nd rfl v6 (@bq _ _ _ _ _ _ (@af _ _ _ _ _ _ ah (@af _ _ _ _ _ _ ah ag z_) z_)) z_ (by first | exact .inl rfl | exact .inr rfl)) (@ai _ _ _ _ _ (cD UY rfl (bU (eK 5 (aR Gv rfl T.z_sorted y_ (@af _ _ _ _ _ _ (ae 5) ag z_)))) (gJ rfl (aO (i:=17) aA.nd rfl v6 (aO (i:=15) aA.nd rfl v6 dj))) (@ai _ _ _ _ _ (@aD _ _ _ 16 _ _ _ aA.nd rfl v6 (@az _ _ _ (aL (rg T) T.x__law_plus hr (@af _ _ _ _ _ _ (ae 16) (@af _ _ _ _ _ _ (ae 15) ag z_) z_))) z_ (by first | exact .inl rfl | exact .inr rfl)) (@ao _ _ _ (@bG _ _ _ _ _ _ _ _ (bg (aL (gS T) T.x__law_under hr (@af _ _ _ _ _ _ (@az _ _ _ (aL (fL T) T.x__law_low hr (@af _ _ _ _ _ _ (@ax _ _ _ _ _ _ (ae 4) ah (λ_ _=>rfl)) (@af _ _ _ _ _ _ (@az _ _ _ (@aC _ _ _ _ _ _ _ _ bo ah (@ax _ _ _ _ _ _ (ae 4) ah (λ_ _=>rfl)))) ag z_) z_))) (@af _ _ _ _ _ _ (@bq _ _ _ _ _ _ (@af _ _ _ _ _ _ (@az _ _ _ (aR AV rfl T.z_abs y_ (@af _ _ _ _ _ _ (@ax _ _ _ _ _ _ (ae 16) ah (λ_ _=>rfl)) ag z_))) (@af _ _ _ _ _ _ (@ax _ _ _ _ _ _ (ae 16) ah (λ_ _=>rfl)) ag z_) z_)) ag z_) z_))) (@ao _ _ _ (@aB _ _ _ _ cY)) aU)))) (@ao _ _ _ (@aB _ _ _ _ cY))))))))
  lN
theorem cA:aE wF ["_law_ring_here","_law_behind_here","_law_ways"] (au jO):=⟨rfl,rfl,rfl,y_,rfl,y_,y_⟩
theorem uY(T:Tx K mg ad fd):FnOk P w K mg base CX0 5 (ad 63) (fd 63) ["_law_ring_here","_law_behind_here","_law_ways"] (spF K 3 iV) :=
 bb (k:=4) T.x__law_rounds.f cA ka (λcdv A outer s H E hr=>by exact(@ai _ _ _ _ _ (@bG _ _ _ _ _ _ _ _ (QV.pb (dh (bT (bg (dY oR rfl T.z_isinstance rfl T.z_list y_ (ae 2)))) (cM (QX (kJ hr.units) (aR cN rfl T.z_len y_ (@af _ _ _ _ _ _ (ae 2) ag z_)) (aR cN rfl T.z_len y_ (@af _ _ _ _ _ _ (@ax _ _ _ _ _ _ (ae 0) ah (λ_ _=>rfl)) ag z_)) (aT _))))) (@ao _ _ _ (@aB _ _ _ _ cY)) aU) (@ai _ _ _ _ _ (cD UY rfl (bU (ae 2)) (eF (i:=3) cA.nd rfl v6) (@ao _ _ _ (@bG _ _ _ _ _ _ _ _ (QV.pb (dh (bT (bg (dY zx rfl T.z_isinstance rfl T.z_str y_ (ae 3)))) (cM (QX rP (ae 3) (@bq _ _ _ _ _ _ (@af _ _ _ _ _ _ i3 (@af _ _ _ _ _ _ i3 ag z_) z_)) rfl)))) (@ao _ _ _ (@aB _ _ _ _ cY)) aU))) (@ai _ _ _ _ _ (@aD _ _ _ 4 _ _ _ cA.nd rfl v6 (@az _ _ _ (aL (ny T) T.x__law_parted hr (@af _ _ _ _ _ _ (ae 0) (@af _ _ _ _ _ _ (ae 1) ag z_) z_))) z_ (by first | exact .inl rfl | exact .inr rfl)) (@ai _ _ _ _ _ (cD UY rfl (l8 rfl T.z_enumerate (ae 2)) (gJ rfl (aO (i:=5) cA.nd rfl v6 (aO (i:=3) cA.nd rfl v6 dj))) (@ai _ _ _ _ _ (@aD _ _ _ 6 _ _ _ cA.nd rfl v6 (@az _ _ _ (aL (lY T) T.x__law_gone hr (@af _ _ _ _ _ _ (ae 0) (@af _ _ _ _ _ _ (ae 1) (@af _ _ _ _ _ _ (ae 5) (@af _ _ _ _ _ _ (ae 3) ag z_) z_) z_) z_))) z_ (by first | exact .inl rfl | exact .inr rfl)) (@ao _ _ _ (@bG _ _ _ _ _ _ _ _ (QV.pb (nE (QX rP (ae 5) (ae 4) rfl) (l6 (QX (kJ hr.units) (ae 6) (@ax _ _ _ _ _ _ (@ax _ _ _ _ _ _ (@ax _ _ _ _ _ _ (ae 0) ah (λ_ _=>rfl)) (ae 5) (λ_ _=>rfl)) ah (λ_ _=>rfl)) (aT _))))) (@ao _ _ _ (@aB _ _ _ _ cY)) aU)))) (@ao _ _ _ (@aB _ _ _ _ (aL (mE T) T.x__law_crossed_sums hr (@af _ _ _ _ _ _ (ae 0) (@af _ _ _ _ _ _ (ae 1) (@af _ _ _ _ _ _ (ae 2) (@af _ _ _ _ _ _ (ae 4) ag z_) z_) z_) z_)))))))))
  ui
theorem gT:aE yE ["_law_ring_here","_law_sending"] (au lh):=⟨rfl,rfl,rfl,y_,rfl,y_,y_⟩
theorem xj(T:Tx K mg ad fd):FnOk P w K mg base CX0 9 (ad 64) (fd 64) ["_law_ring_here","_law_sending"] (spF K 2 kb) :=
 bb (k:=8) T.x__law_right.f gT lU (λcdv A outer s H E hr=>by exact(@ai _ _ _ _ _ (@aD _ _ _ 2 _ _ _ gT.nd rfl v6 (aL (iW T) T.x_rounding_of hr (@af _ _ _ _ _ _ (ae 0) (@af _ _ _ _ _ _ (ae 1) ag z_) z_)) z_ (by first | exact .inl rfl | exact .inr rfl)) (@ai _ _ _ _ _ (@bG _ _ _ _ _ _ _ _ (QV.pb (dh (bT (bg (eK 2 (dY i7 rfl T.z_isinstance rfl T.z_tuple y_ (ae 2))))) (dh (QX (kJ hr.units) (eK 2 (aR cN rfl T.z_len PySem.boot_len (@af _ _ _ _ _ _ (ae 2) ag z_))) ah (aT _)) (cM (bT (bg (eK 2 (dY oR rfl T.z_isinstance rfl T.z_list y_ (eK 2 (@ax _ _ _ _ _ _ (ae 2) ah (λ_ _=>rfl))))))))))) (@ao _ _ _ (@aB _ _ _ _ cY)) aU) (@ai _ _ _ _ _ (@aD _ _ _ 3 _ _ _ gT.nd rfl v6 (@az _ _ _ (eK 2 (aL (uX T) T.x__law_behind hr (@af _ _ _ _ _ _ (ae 0) (@af _ _ _ _ _ _ (ae 1) (@af _ _ _ _ _ _ (eK 2 (@ax _ _ _ _ _ _ (ae 2) ah (λ_ _=>rfl))) ag z_) z_) z_)))) z_ (by first | exact .inl rfl | exact .inr rfl)) (@ai _ _ _ _ _ (@bG _ _ _ _ _ _ _ _ (QV.pb (dh (QX Jx (ae 3) u6 (aT _)) (cM (QX FW (eK 2 (aR cN rfl T.z_len y_ (@af _ _ _ _ _ _ (eK 2 (@ax _ _ _ _ _ _ (ae 2) ah (λ_ _=>rfl))) ag z_))) (aR cN rfl T.z_len y_ (@af _ _ _ _ _ _ (@az _ _ _ (aL (ny T) T.x__law_parted hr (@af _ _ _ _ _ _ (ae 0) (@af _ _ _ _ _ _ (ae 1) ag z_) z_))) ag z_)) (aT _))))) (@ao _ _ _ (@aB _ _ _ _ cY)) aU) (@ai _ _ _ _ _ (@bG _ _ _ _ _ _ _ _ (bT (bg (eK 2 (aL (uY T) T.x__law_rounds hr (@af _ _ _ _ _ _ (ae 0) (@af _ _ _ _ _ _ (ae 3) (@af _ _ _ _ _ _ (eK 2 (@ax _ _ _ _ _ _ (ae 2) ah (λ_ _=>rfl))) ag z_) z_) z_))))) (@ao _ _ _ (@aB _ _ _ _ cY)) aU) (@ai _ _ _ _ _ (@bG _ _ _ _ _ _ _ _ (QX JO (eK 2 (aL (rK T) T.x_lets_rounding hr (@af _ _ _ _ _ _ (ae 0) (@af _ _ _ _ _ _ (ae 1) (@af _ _ _ _ _ _ (ae 2) ag z_) z_) z_))) cY (aT _)) (@ao _ _ _ (@aB _ _ _ _ cY)) aU) (@ai _ _ _ _ _ (@aD _ _ _ 4 _ _ _ gT.nd rfl v6 (@az _ _ _ (eK 2 (aR (Bg hr) rfl T.z_repr y_ (@af _ _ _ _ _ _ (ae 2) ag z_)))) z_ (by first | exact .inl rfl | exact .inr rfl)) (@ai _ _ _ _ _ (jt (ve 2 ah (λ_ _=>rfl))) (@ai _ _ _ _ _ (jt (ve 2 ah (λ_ _=>rfl))) (@ao _ _ _ (@aB _ _ _ _ (eE Mr (aR (Bg hr) rfl T.z_repr y_ (@af _ _ _ _ _ _ (@az _ _ _ (aL (iW T) T.x_rounding_of hr (@af _ _ _ _ _ _ (ae 0) (@af _ _ _ _ _ _ (ae 1) ag z_) z_))) ag z_)) (ae 4) (aT _))))))))))))))
  uU
theorem lZ:aE Hh ["_law_script"] (au An):=⟨rfl,rfl,rfl,y_,rfl,y_,y_⟩
theorem Nu(T:Tx K mg ad fd):FnOk P w K mg base CX0 10 (ad 65) (fd 65) ["_law_script"] (spF K 1 fs_law) :=
 bb (k:=9) T.x_law.f lZ KY (λcdv A outer s H E hr=>by exact(@ai _ _ _ _ _ (cD UY rfl (Gf rfl T.z_range ah (aR (HS rfl) rfl T.z_max y_ (@af _ _ _ _ _ _ ah (@af _ _ _ _ _ _ (@az _ _ _ (aR (AW rfl) rfl T.z_min y_ (@af _ _ _ _ _ _ (@az _ _ _ (aR cN rfl T.z_len y_ (@af _ _ _ _ _ _ (ae 0) ag z_))) (@af _ _ _ _ _ _ ah ag z_) z_))) ag z_) z_)) ah) (eF (i:=1) lZ.nd rfl v6) (@ai _ _ _ _ _ (@aD _ _ _ 2 _ _ _ lZ.nd rfl v6 (@az _ _ _ (aL (yZ T) T.x__law_ring hr (@af _ _ _ _ _ _ (ae 0) (@af _ _ _ _ _ _ (ae 1) (@af _ _ _ _ _ _ ah (@af _ _ _ _ _ _ ah ag z_) z_) z_) z_))) z_ (by first | exact .inl rfl | exact .inr rfl)) (@ai _ _ _ _ _ (@aD _ _ _ 3 _ _ _ lZ.nd rfl v6 (aL (gQ T) T.x__law_begun hr (@af _ _ _ _ _ _ (ae 0) (@af _ _ _ _ _ _ (@az _ _ _ (@aC _ _ _ _ _ _ _ _ bV (ae 1) ah)) ag z_) z_)) z_ (by first | exact .inl rfl | exact .inr rfl)) (@ai _ _ _ _ _ (@aD _ _ _ 4 _ _ _ lZ.nd rfl v6 (@az _ _ _ (cP (xf T) T.x__law_parts hr 0 3 (bH 3 (@af _ _ _ _ _ _ (ae 2) ag z_)))) z_ (by first | exact .inl rfl | exact .inr rfl)) (@ai _ _ _ _ _ (@aD _ _ _ 5 _ _ _ lZ.nd rfl v6 (@az _ _ _ (aR (DM hr) rfl T.z_repr y_ (@af _ _ _ _ _ _ (@bq _ _ _ _ _ _ (@af _ _ _ _ _ _ (ae 2) (@af _ _ _ _ _ _ (ae 4) ag z_) z_)) ag z_))) z_ (by first | exact .inl rfl | exact .inr rfl)) (@ai _ _ _ _ _ (@bG _ _ _ _ _ _ _ _ (bT (bg (aL (xj T) T.x__law_right hr (@af _ _ _ _ _ _ (ae 2) (@af _ _ _ _ _ _ (ae 4) ag z_) z_)))) (@ao _ _ _ (@aB _ _ _ _ cY)) aU) (@ai _ _ _ _ _ (@aD _ _ _ 6 _ _ _ lZ.nd rfl v6 (jB (sc:=(au An)) (N:=Hh) (Nt:=[ "_law_ask" ]) (Nf:=[ "_law_state" ]) (fi:=[3]) rfl rfl rfl (bU (@ax _ _ _ _ _ _ (ae 2) ah (λ_ _=>rfl))) rfl y_ y_ y_ xp rfl y_ xp (λ_ _ _ _=>(iI xp (show(([ "_law_ask" ]:List Str)++([ "_law_state" ]:List Str)).Nodup by decide +kernel) rfl (Or.inl rfl))) (λ_ _ _ _=>jA) (λ_ _ _ _=>(@ax _ _ _ _ _ _ (@cC _ _ _ _ _ (@af _ _ _ _ _ _ i3 (@af _ _ _ _ _ _ i3 ag z_) z_)) (cP (a6 T) T.x__law_take hr 0 1 (bH 1 (@af _ _ _ _ _ _ ah ag z_))) (λ_ _=>rfl)))) z_ (by first | exact .inl rfl | exact .inr rfl)) (@ai _ _ _ _ _ (vQ lZ.nd (j:=7) rfl v6 (sc:=(au An)) (N:=Hh) (Nt:=[ "_law_ask" ,"_law_way" ]) (Nf:=[]) (fi:=[]) rfl rfl rfl (DA rfl T.z_zip (@ax _ _ _ _ _ _ (ae 2) ah (λ_ _=>rfl)) (ae 6)) rfl y_ y_ y_ xp rfl y_ xp (λ_ _ _ _=>(DB rfl (l9 (i:=0) xp (show(([ "_law_ask" ,"_law_way" ]:List Str)++([]:List Str)).Nodup by decide +kernel) rfl (Or.inl rfl) (l9 (i:=1) xp (show(([ "_law_ask" ,"_law_way" ]:List Str)++([]:List Str)).Nodup by decide +kernel) rfl (Or.inl rfl) zB)))) (λ_ _ _ _=>jA) (λ_ _ _ _=>(@ax _ _ _ _ _ _ (@cC _ _ _ _ _ (@af _ _ _ _ _ _ (@bq _ _ _ _ _ _ (@af _ _ _ _ _ _ ah (@af _ _ _ _ _ _ ah ag z_) z_)) (@af _ _ _ _ _ _ (@ax _ _ _ _ _ _ (ae 0) ah (λ_ _=>rfl)) ag z_) z_)) (eH xD rfl T.z_int y_ (@af _ _ _ _ _ _ (eE (fZ hr.units) (ae 1) i3 (aT _)) ag z_)) (λ_ _=>rfl)))) (@ai _ _ _ _ _ (pV (gJ rfl (aO (i:=8) lZ.nd rfl v6 (aO (i:=9) lZ.nd rfl v6 dj))) (aL (iW T) T.x_rounding_of hr (@af _ _ _ _ _ _ (ae 2) (@af _ _ _ _ _ _ (ae 7) ag z_) z_))) (@ai _ _ _ _ _ (vQ lZ.nd (j:=10) rfl v6 (sc:=(au An)) (N:=Hh) (Nt:=[ "_law_k" ]) (Nf:=[ "_law_ring_here" ,"_law_told" ,"_law_ways" ]) (fi:=[2,9,6]) rfl rfl rfl (iq rfl T.z_range (aR cN rfl T.z_len y_ (@af _ _ _ _ _ _ (ae 6) ag z_))) rfl y_ y_ y_ xp rfl y_ xp (λ_ _ _ _=>(iI xp (show(([ "_law_k" ]:List Str)++([ "_law_ring_here" ,"_law_told" ,"_law_ways" ]:List Str)).Nodup by decide +kernel) rfl (Or.inl rfl))) (λ_ _ _ _=>(vP (QV.pb (nE (QX (kJ hr.units) (@ax _ _ _ _ _ _ (@ax _ _ _ _ _ _ (@ax _ _ _ _ _ _ (ae 1) ah (λ_ _=>rfl)) (ae 0) (λ_ _=>rfl)) ah (λ_ _=>rfl)) (@bq _ _ _ _ _ _ (@af _ _ _ _ _ _ ah (@af _ _ _ _ _ _ ah ag z_) z_)) (aT _)) (l6 (QX (kJ hr.units) (@ax _ _ _ _ _ _ (ae 2) (ae 0) (λ_ _=>rfl)) (@ax _ _ _ _ _ _ (ae 3) (ae 0) (λ_ _=>rfl)) (aT _))))))) (λ_ _ _ _=>(ae 0))) (@ao _ _ _ (@bG _ _ _ _ _ _ _ _ (QV.pb (dh (QX (kJ hr.units) (ae 8) (@cC _ _ _ _ _ ag) (aT _)) (dh (QX (kJ hr.units) (ae 10) (@cC _ _ _ _ _ ag) (aT _)) (cM (QX Ms (aR (DM hr) rfl T.z_repr y_ (@af _ _ _ _ _ _ (@bq _ _ _ _ _ _ (@af _ _ _ _ _ _ (ae 2) (@af _ _ _ _ _ _ (ae 4) ag z_) z_)) ag z_)) (ae 5) (aT _)))))) (@ao _ _ _ (@aB _ _ _ _ cY)) aU)))))))))))) (@ao _ _ _ (@aB _ _ _ _ cY))))
  K2
end
noncomputable def Uz(i:Nat):Addr:=([21,67,74,81,88,96,103,110,117,124,131,138,145,152,159,164,171,178,185,190,195,249,242,221,216,228,235,209,202,270,263,256,292,285,306,313,320,327,299,278,339,334,346,353,372,360,367,379,386,393,400,407,414,466,428,421,447,454,459,473,440,433,480,487,494,499]:List Addr).getD i 0
noncomputable abbrev UA:Value:=(.str "ringloads.divisors" 187)
noncomputable abbrev UB:Value:=(.str "ringloads.names" 251)
noncomputable abbrev UC:Value:=(.str "ringloads.ratios" 282)
noncomputable abbrev UD:Value:=(.str "ringloads.crossing" 344)
noncomputable abbrev UE:Value:=(.str "ringloads.ways" 392)
noncomputable abbrev UF:Value:=(.str "ringloads.sendings" 418)
noncomputable abbrev UG:Value:=(.str "ringloads.slides" 426)
noncomputable abbrev UH:Value:=(.str "ringloads.rounding" 534)
noncomputable abbrev UI:Value:=(.str "law_ringloads_k37_roundings_told" 637)
noncomputable def UJ(i:Nat):FuncData:=[Rr "greatest_shared" fm UA 20,Rr "is_whole" qe UB 66,Rr "is_number_below" fu UB 73,Rr "are_two_wholes" gD UB 80,Rr "is_ratio" qg UB 87,Rr "lowest" wo UC 95,Rr "plus" EE UC 102,Rr "minus" Aa UC 109,Rr "times" Ab UC 116,Rr "under" Ac UC 123,Rr "greater" tK UC 130,Rr "lesser" wq UC 137,Rr "lesser_place" iM UD 144,Rr "greater_place" g8 UD 151,Rr "do_cross" qh UD 158,Rr "parted_in" jH UD 163,Rr "first_side_by_side" dz UD 170,Rr "is_way" wu UE 177,Rr "other_way" nM UE 184,Rr "ties_of" kT UE 189,Rr "are_ways" mi UF 194,Rr "part_behind" jI UG 248,Rr "slid_once" nN UG 241,Rr "share_no_tie" fM UG 220,Rr "has_form_of_slide" dP UG 215,Rr "not_sent" qj UG 227,Rr "most_slid" nQ UG 234,Rr "is_slide" qk UG 208,Rr "slid_by" tP UG 201,Rr "ways_apart" kU UG 269,Rr "greatest_slide" gE UG 262,Rr "slides_for" kW UG 255,Rr "nearest_way" jJ UH 291,Rr "keeps_whole_asks" eL UH 284,Rr "half_of_greatest" eM UH 305,Rr "by_lesser_place" c8 UH 312,Rr "rising_way" kX UH 319,Rr "gain_of" tQ UH 326,Rr "keeps_within" iN UH 298,Rr "lets_rounding" g9 UH 277,Rr "rounded_ways" fN UH 338,Rr "rounding_of" jK UH 333,Rr "_law_begun" kY UI 345,Rr "_law_take" nR UI 352,Rr "_law_names" gb UI 371,Rr "_law_low" qn UI 359,Rr "_law_amount" jL UI 366,Rr "_law_rooms" k6 UI 378,Rr "_law_ends" nS UI 385,Rr "_law_ring" nT UI 392,Rr "_law_parts" k7 UI 399,Rr "_law_plus" nU UI 406,Rr "_law_minus" k8 UI 413,Rr "_law_slid" nV UI 465,Rr "_law_ties" nW UI 427,Rr "_law_under" k9 UI 420,Rr "_law_is_ratio" hG UI 446,Rr "_law_gone" nX UI 453,Rr "_law_is_slide" eN UI 458,Rr "_law_behind" jM UI 472,Rr "_law_parted" jN UI 439,Rr "_law_cross" iz UI 432,Rr "_law_crossed_sums" dQ UI 479,Rr "_law_rounds" jO UI 486,Rr "_law_right" lh UI 493,Rr "law" An UI 498].getD i (Rr "law" An UA 0)
theorem tx{Pm:Params}{h:Heap}{mg:Str->Option Value}(X:(Hd.Kf Pm).In h)(G:h.Ns mainGlobals mg):Tx (Hd.Kf Pm) mg Uz UJ where
 x_greatest_shared:=FX.mk' X G (a:=21) (c:=20) (md:=UA) z_ z_ z_ z_ λ_ _ _ _ _ _ u l=>match u,l with | [_,_],_=>rfl
 x_is_whole:=FX.mk' X G (a:=67) (c:=66) (md:=UB) z_ z_ z_ z_ λ_ _ _ _ _ _ u l=>match u,l with | [_],_=>rfl
 x_is_number_below:=FX.mk' X G (a:=74) (c:=73) (md:=UB) z_ z_ z_ z_ λ_ _ _ _ _ _ u l=>match u,l with | [_,_],_=>rfl
 x_are_two_wholes:=FX.mk' X G (a:=81) (c:=80) (md:=UB) z_ z_ z_ z_ λ_ _ _ _ _ _ u l=>match u,l with | [_],_=>rfl
 x_is_ratio:=FX.mk' X G (a:=88) (c:=87) (md:=UB) z_ z_ z_ z_ λ_ _ _ _ _ _ u l=>match u,l with | [_],_=>rfl
 x_lowest:=FX.mk' X G (a:=96) (c:=95) (md:=UC) z_ z_ z_ z_ λ_ _ _ _ _ _ u l=>match u,l with | [_,_],_=>rfl
 x_plus:=FX.mk' X G (a:=103) (c:=102) (md:=UC) z_ z_ z_ z_ λ_ _ _ _ _ _ u l=>match u,l with | [_,_],_=>rfl
 x_minus:=FX.mk' X G (a:=110) (c:=109) (md:=UC) z_ z_ z_ z_ λ_ _ _ _ _ _ u l=>match u,l with | [_,_],_=>rfl
 x_times:=FX.mk' X G (a:=117) (c:=116) (md:=UC) z_ z_ z_ z_ λ_ _ _ _ _ _ u l=>match u,l with | [_,_],_=>rfl
 x_under:=FX.mk' X G (a:=124) (c:=123) (md:=UC) z_ z_ z_ z_ λ_ _ _ _ _ _ u l=>match u,l with | [_,_],_=>rfl
 x_greater:=FX.mk' X G (a:=131) (c:=130) (md:=UC) z_ z_ z_ z_ λ_ _ _ _ _ _ u l=>match u,l with | [_,_],_=>rfl
 x_lesser:=FX.mk' X G (a:=138) (c:=137) (md:=UC) z_ z_ z_ z_ λ_ _ _ _ _ _ u l=>match u,l with | [_,_],_=>rfl
 x_lesser_place:=FX.mk' X G (a:=145) (c:=144) (md:=UD) z_ z_ z_ z_ λ_ _ _ _ _ _ u l=>match u,l with | [_,_],_=>rfl
 x_greater_place:=FX.mk' X G (a:=152) (c:=151) (md:=UD) z_ z_ z_ z_ λ_ _ _ _ _ _ u l=>match u,l with | [_,_],_=>rfl
 x_do_cross:=FX.mk' X G (a:=159) (c:=158) (md:=UD) z_ z_ z_ z_ λ_ _ _ _ _ _ u l=>match u,l with | [_,_,_],_=>rfl
 x_parted_in:=FX.mk' X G (a:=164) (c:=163) (md:=UD) z_ z_ z_ z_ λ_ _ _ _ _ _ u l=>match u,l with | [_,_],_=>rfl
 x_first_side_by_side:=FX.mk' X G (a:=171) (c:=170) (md:=UD) z_ z_ z_ z_ λ_ _ _ _ _ _ u l=>match u,l with | [_,_],_=>rfl
 x_is_way:=FX.mk' X G (a:=178) (c:=177) (md:=UE) z_ z_ z_ z_ λ_ _ _ _ _ _ u l=>match u,l with | [_],_=>rfl
 x_other_way:=FX.mk' X G (a:=185) (c:=184) (md:=UE) z_ z_ z_ z_ λ_ _ _ _ _ _ u l=>match u,l with | [_],_=>rfl
 x_ties_of:=FX.mk' X G (a:=190) (c:=189) (md:=UE) z_ z_ z_ z_ λ_ _ _ _ _ _ u l=>match u,l with | [_,_,_],_=>rfl
 x_are_ways:=FX.mk' X G (a:=195) (c:=194) (md:=UF) z_ z_ z_ z_ λ_ _ _ _ _ _ u l=>match u,l with | [_,_],_=>rfl
 x_part_behind:=FX.mk' X G (a:=249) (c:=248) (md:=UG) z_ z_ z_ z_ λ_ _ _ _ _ _ u l=>match u,l with | [_,_,_],_=>rfl
 x_slid_once:=FX.mk' X G (a:=242) (c:=241) (md:=UG) z_ z_ z_ z_ λ_ _ _ _ _ _ u l=>match u,l with | [_,_],_=>rfl
 x_share_no_tie:=FX.mk' X G (a:=221) (c:=220) (md:=UG) z_ z_ z_ z_ λ_ _ _ _ _ _ u l=>match u,l with | [_,_,_,_,_],_=>rfl
 x_has_form_of_slide:=FX.mk' X G (a:=216) (c:=215) (md:=UG) z_ z_ z_ z_ λ_ _ _ _ _ _ u l=>match u,l with | [_,_],_=>rfl
 x_not_sent:=FX.mk' X G (a:=228) (c:=227) (md:=UG) z_ z_ z_ z_ λ_ _ _ _ _ _ u l=>match u,l with | [_,_,_,_],_=>rfl
 x_most_slid:=FX.mk' X G (a:=235) (c:=234) (md:=UG) z_ z_ z_ z_ λ_ _ _ _ _ _ u l=>match u,l with | [_,_,_],_=>rfl
 x_is_slide:=FX.mk' X G (a:=209) (c:=208) (md:=UG) z_ z_ z_ z_ λ_ _ _ _ _ _ u l=>match u,l with | [_,_,_],_=>rfl
 x_slid_by:=FX.mk' X G (a:=202) (c:=201) (md:=UG) z_ z_ z_ z_ λ_ _ _ _ _ _ u l=>match u,l with | [_,_,_],_=>rfl
 x_ways_apart:=FX.mk' X G (a:=270) (c:=269) (md:=UG) z_ z_ z_ z_ λ_ _ _ _ _ _ u l=>match u,l with | [_,_,_],_=>rfl
 x_greatest_slide:=FX.mk' X G (a:=263) (c:=262) (md:=UG) z_ z_ z_ z_ λ_ _ _ _ _ _ u l=>match u,l with | [_,_,_,_],_=>rfl
 x_slides_for:=FX.mk' X G (a:=256) (c:=255) (md:=UG) z_ z_ z_ z_ λ_ _ _ _ _ _ u l=>match u,l with | [_,_],_=>rfl
 x_nearest_way:=FX.mk' X G (a:=292) (c:=291) (md:=UH) z_ z_ z_ z_ λ_ _ _ _ _ _ u l=>match u,l with | [_,_],_=>rfl
 x_keeps_whole_asks:=FX.mk' X G (a:=285) (c:=284) (md:=UH) z_ z_ z_ z_ λ_ _ _ _ _ _ u l=>match u,l with | [_,_,_,_],_=>rfl
 x_half_of_greatest:=FX.mk' X G (a:=306) (c:=305) (md:=UH) z_ z_ z_ z_ λ_ _ _ _ _ _ u l=>match u,l with | [_,_],_=>rfl
 x_by_lesser_place:=FX.mk' X G (a:=313) (c:=312) (md:=UH) z_ z_ z_ z_ λ_ _ _ _ _ _ u l=>match u,l with | [_,_],_=>rfl
 l_by_lesser_place:=MF.mk' (c0:=312) z_ rfl z_
 x_rising_way:=FX.mk' X G (a:=320) (c:=319) (md:=UH) z_ z_ z_ z_ λ_ _ _ _ _ _ u l=>match u,l with | [_,_],_=>rfl
 x_gain_of:=FX.mk' X G (a:=327) (c:=326) (md:=UH) z_ z_ z_ z_ λ_ _ _ _ _ _ u l=>match u,l with | [_,_,_,_],_=>rfl
 x_keeps_within:=FX.mk' X G (a:=299) (c:=298) (md:=UH) z_ z_ z_ z_ λ_ _ _ _ _ _ u l=>match u,l with | [_,_,_,_],_=>rfl
 x_lets_rounding:=FX.mk' X G (a:=278) (c:=277) (md:=UH) z_ z_ z_ z_ λ_ _ _ _ _ _ u l=>match u,l with | [_,_,_],_=>rfl
 x_rounded_ways:=FX.mk' X G (a:=339) (c:=338) (md:=UH) z_ z_ z_ z_ λ_ _ _ _ _ _ u l=>match u,l with | [_,_],_=>rfl
 x_rounding_of:=FX.mk' X G (a:=334) (c:=333) (md:=UH) z_ z_ z_ z_ λ_ _ _ _ _ _ u l=>match u,l with | [_,_],_=>rfl
 x__law_begun:=FX.mk' X G (a:=346) (c:=345) (md:=UI) z_ z_ z_ z_ λ_ _ _ _ _ _ u l=>match u,l with | [_,_],_=>rfl
 x__law_take:=FX.mk' X G (a:=353) (c:=352) (md:=UI) z_ z_ z_ z_ λ_ _ _ _ _ _ u l=>match u,l with | [_,_],_=>rfl
 x__law_names:=FX.mk' X G (a:=372) (c:=371) (md:=UI) z_ z_ z_ z_ λ_ _ _ _ _ _ u l=>match u,l with | [_,_],_=>rfl
 x__law_low:=FX.mk' X G (a:=360) (c:=359) (md:=UI) z_ z_ z_ z_ λ_ _ _ _ _ _ u l=>match u,l with | [_,_],_=>rfl
 x__law_amount:=FX.mk' X G (a:=367) (c:=366) (md:=UI) z_ z_ z_ z_ λ_ _ _ _ _ _ u l=>match u,l with | [_,_,_],_=>rfl
 x__law_rooms:=FX.mk' X G (a:=379) (c:=378) (md:=UI) z_ z_ z_ z_ λ_ _ _ _ _ _ u l=>match u,l with | [_,_,_],_=>rfl
 x__law_ends:=FX.mk' X G (a:=386) (c:=385) (md:=UI) z_ z_ z_ z_ λ_ _ _ _ _ _ u l=>match u,l with | [_,_,_,_],_=>rfl
 x__law_ring:=FX.mk' X G (a:=393) (c:=392) (md:=UI) z_ z_ z_ z_ λ_ _ _ _ _ _ u l=>match u,l with | [_,_,_,_],_=>rfl
 x__law_parts:=FX.mk' X G (a:=400) (c:=399) (md:=UI) z_ z_ z_ z_ λ_ _ _ _ _ _ u l=>match u,l with | [_,_],_=>rfl
 x__law_plus:=FX.mk' X G (a:=407) (c:=406) (md:=UI) z_ z_ z_ z_ λ_ _ _ _ _ _ u l=>match u,l with | [_,_],_=>rfl
 x__law_minus:=FX.mk' X G (a:=414) (c:=413) (md:=UI) z_ z_ z_ z_ λ_ _ _ _ _ _ u l=>match u,l with | [_,_],_=>rfl
 x__law_slid:=FX.mk' X G (a:=466) (c:=465) (md:=UI) z_ z_ z_ z_ λ_ _ _ _ _ _ u l=>match u,l with | [_,_],_=>rfl
 x__law_ties:=FX.mk' X G (a:=428) (c:=427) (md:=UI) z_ z_ z_ z_ λ_ _ _ _ _ _ u l=>match u,l with | [_,_,_],_=>rfl
 x__law_under:=FX.mk' X G (a:=421) (c:=420) (md:=UI) z_ z_ z_ z_ λ_ _ _ _ _ _ u l=>match u,l with | [_,_],_=>rfl
 x__law_is_ratio:=FX.mk' X G (a:=447) (c:=446) (md:=UI) z_ z_ z_ z_ λ_ _ _ _ _ _ u l=>match u,l with | [_],_=>rfl
 x__law_gone:=FX.mk' X G (a:=454) (c:=453) (md:=UI) z_ z_ z_ z_ λ_ _ _ _ _ _ u l=>match u,l with | [_,_,_,_],_=>rfl
 x__law_is_slide:=FX.mk' X G (a:=459) (c:=458) (md:=UI) z_ z_ z_ z_ λ_ _ _ _ _ _ u l=>match u,l with | [_,_,_],_=>rfl
 x__law_behind:=FX.mk' X G (a:=473) (c:=472) (md:=UI) z_ z_ z_ z_ λ_ _ _ _ _ _ u l=>match u,l with | [_,_,_],_=>rfl
 x__law_parted:=FX.mk' X G (a:=440) (c:=439) (md:=UI) z_ z_ z_ z_ λ_ _ _ _ _ _ u l=>match u,l with | [_,_],_=>rfl
 x__law_cross:=FX.mk' X G (a:=433) (c:=432) (md:=UI) z_ z_ z_ z_ λ_ _ _ _ _ _ u l=>match u,l with | [_,_,_],_=>rfl
 x__law_crossed_sums:=FX.mk' X G (a:=480) (c:=479) (md:=UI) z_ z_ z_ z_ λ_ _ _ _ _ _ u l=>match u,l with | [_,_,_,_],_=>rfl
 x__law_rounds:=FX.mk' X G (a:=487) (c:=486) (md:=UI) z_ z_ z_ z_ λ_ _ _ _ _ _ u l=>match u,l with | [_,_,_],_=>rfl
 x__law_right:=FX.mk' X G (a:=494) (c:=493) (md:=UI) z_ z_ z_ z_ λ_ _ _ _ _ _ u l=>match u,l with | [_,_],_=>rfl
 x_law:=FX.mk' X G (a:=499) (c:=498) (md:=UI) z_ z_ z_ z_ λ_ _ _ _ _ _ u l=>match u,l with | [_],_=>rfl
 z_abs:=Vh X G z_
 z_all:=Vh X G z_
 z_any:=Vh X G z_
 z_bool:=Vh X G z_
 z_enumerate:=Vh X G z_
 z_int:=Vh X G z_
 z_isinstance:=Vh X G z_
 z_len:=Vh X G z_
 z_list:=Vh X G z_
 z_max:=Vh X G z_
 z_min:=Vh X G z_
 z_range:=Vh X G z_
 z_repr:=Vh X G z_
 z_sorted:=Vh X G z_
 z_str:=Vh X G z_
 z_tuple:=Vh X G z_
 z_zip:=Vh X G z_
 g_BACK:=A0 (PySem.W.mg_of X G (v:=(.str "back" 396)) z_)
 g_HALF:=AZ (PySem.W.mg_of X G (v:=.ref 271) z_) (show(Hd.Kf Pm).lookup 271=some (Obj.mk (.type "tuple") none (.seq #[(.int 1 536),(.int 2 537)] 0) #[]) by kernel_rfl) ⟨_,_,[L2.V.int 1,L2.V.int 2],_,rfl,rfl,rfl,xp,(.cons ⟨_,rfl⟩ (.cons ⟨_,rfl⟩ .nil)),λK H=>(.cons (.int _) (.cons (.int _) .nil))⟩
 g_NOUGHT:=AZ (PySem.W.mg_of X G (v:=.ref 89) z_) (show(Hd.Kf Pm).lookup 89=some (Obj.mk (.type "tuple") none (.seq #[(.int 0 284),(.int 1 285)] 0) #[]) by kernel_rfl) ⟨_,_,[L2.V.int 0,L2.V.int 1],_,rfl,rfl,rfl,xp,(.cons ⟨_,rfl⟩ (.cons ⟨_,rfl⟩ .nil)),λK H=>(.cons (.int _) (.cons (.int _) .nil))⟩
 g_ON:=A0 (PySem.W.mg_of X G (v:=(.str "on" 394)) z_)
theorem walkF(w:World)(mg:Str→Option Value)(fa:Addr)(h:Heap)(X:(Hd.Kf w.params).In h)(G:h.Ns mainGlobals mg) (hmg:mg "law"=some (.ref fa)) :
  ∃ fd:FuncData,(∀(s:Shared)(u:Value),BindsTo s fd ⟨[u],[]⟩ [("_law_script",u)])∧∀ base:Heap,(Hd.Kf w.params).In base→base.Ns mainGlobals mg→FnOk PySem.Challenge.pw_ringloads_k37_roundings_told w (Hd.Kf w.params) mg base CX0 10 fa fd ["_law_script"] (spF (Hd.Kf w.params) 1 fs_law):=by
 have T:=tx X G
 have e:=hmg.symm.trans T.x_law.m
 cases e
 exact⟨_,fun s v=>.of_eq rfl,fun base _ _=>Nu T⟩
theorem tabR(w:World):∀x∈L2.lamNames,PySem.W.tabIn (Hd.Kf w.params) x=none∨((PyProof.Rows.recsOf Hd.q).find? λe=>e.name == x).isSome=true:=by
 intro x hx;simp only[L2.lamNames,UV,Wn,or_false]at hx;rcases hx with rfl|rfl|rfl
 . exact .inl z_
 . exact .inr z_
 . exact .inl z_
theorem walk{l:PySem.W.OpenLaw}{q:Program}{loose:List Str}{XP:(Str->Option Value)->Heap->Prop}{YP:World->Heap->Prop}{d:DefRec}{K:Params->PySem.W.Frag}(hn:l.most=some 63)(hq:PyProof.Rows.importsNone q=true)(hdf:d.params.defaults=[])
  (hY:∀(w:World)(h:Heap),YP w h->(K w.params).In h) (hto:∀w:World,L2.tabsOk (K w.params)=true) (hrc:∀(w:World),∀x∈L2.lamNames,PySem.W.tabIn (K w.params) x=none∨((PyProof.Rows.recsOf q).find? λe=>e.name == x).isSome=true)
  (F:∀(w:World)(mg:Str->Option Value)(fa:Addr)(h:Heap),(K w.params).In h->h.Ns mainGlobals mg->mg d.name=some (.ref fa) ->
   ∃ fd:FuncData,(∀(s:Shared)(u:Value),BindsTo s fd ⟨[u],[]⟩ [("_law_script",u)])/\∀ base:Heap,(K w.params).In base->base.Ns mainGlobals mg->FnOk l.prog w (K w.params) mg base CX0 10 fa fd ["_law_script"] (spF (K w.params) 1 fs_law)) :
  PySem.W.WalkO q loose XP YP l.row.toRowW d [] (λf vs=>PySem.call f vs) :=
 L2.walk_of (n:=63) (k:=10) (x:="_law_script") (CX:=λ_=>CX0) (sp:=λw=>spF (K w.params) 1 fs_law) hn hq xp hdf ⟨rfl,xp,xp,rfl⟩ hY hto hrc F (λ_ H a ns hl hO hS=>Du hl hO hS (Fi hl)) λ_ _ _ _ _ z=>z
end My
open PySem PySem.W PyProof.Rows
noncomputable abbrev PySem.W.Fast.tw7734686628545164867:PySem.Program:=PySem.Challenge.pw_ringloads_k37_roundings_told
theorem PySem.W.Fast.te7734686628545164867:PySem.Challenge.pw_ringloads_k37_roundings_told=PySem.W.Fast.tw7734686628545164867:=rfl
set_option maxRecDepth 100000 in
theorem PySem.Challenge.cw_ringloads_k37_roundings_told_holds : PySem.Challenge.rw_ringloads_k37_roundings_told.Holds := by
 w_on;o_law
 refine PySem.W.holds_open (q:=Hd.q) (loose:=Hd.loose) (Xt:=Hd.Xt) (XP:=XL Hd.q []) (Yf:=Hook.obs Hd.Hk) (Ya:=Hook.val Hd.Hk) (YP:=Hook.says Hd.Hk) (N:=_) Hd.left (Hook.of Hd.Hk) (Hook.keeps Hd.Hk) (fun s e=>xl_of s (WC.mp e).1) XL.keeps (by rfl) (by rfl) (by rfl) (fun s e=>recFacts_of (WC.mp e).2) (by rfl) (by assumption) y_ ⟨rfl,rfl,rfl,rfl,rfl,y_⟩ ?hw ?hc
 case hw=>w_witness2
 case hc=>exact My.walk (l:=PySem.Challenge.rw_ringloads_k37_roundings_told) (K:=Hd.Kf) rfl y_ rfl (fun w h Y=>PySem.W.kIn_of Y) (fun w=>by kernel_rfl) My.tabR My.walkF